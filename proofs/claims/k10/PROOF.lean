import PyProof.Rows.All
import Wide.All
import OpenK.AllK
import Wide.FinOn
import HandS.ForMost
import HandS.IsInst
import HandS.Style
import HandS.Set
import HandS.Strs
import HandS.SetBool
import HandS.SetFor
import PySem.Challenge.RW_ringproofs_k10_atoms_put
import HandS.Zip
import HandS.FStr
import HandS.Text
import HandS.CallLocal
import HandS.Codes
import PyProof.StrLaws
import HandS.Walk
import HandS.Steps
import HandS.Star
import HandS.Conv
import KE.KDictPairs
import HandS.Nested
import PyProof.Rows.RegFStrParts
import HandS.Deep
import HandS.TupAny
import HandS.EndTab
import KE.KNest
set_option Elab.async false
set_option linter.all false
set_option maxRecDepth 100000
set_option maxHeartbeats 4000000
/-! Two rules that the layer lacks: a comprehension that makes a set of ints, and set(xs) of a list of ints whose table is known well enough to be sorted afterwards. -/
namespace Rp
open PySem PySem.Spec PyProof.Rows L2 PpSet

section addi
variable {X : Cx}
/-- an int goes into a tracked set of ints -/
theorem putInt {pins : List (Addr × Obj)} {σ : L2.St} {H : Hp} {s : Shared} {E : Value → Shared → Prop} {D : Addr} {S : Int → Bool} {n : Nat} {y : Int} {t : Tok} {Q : Value → Shared → Prop}
    (I : Inv X pins σ H s) (hD : H D = some (SetO X.w D S n)) (few : n + 1 < scanBound)
    (go : ∀ s', Inv X pins σ (upd H D (SetO X.w D (fun j => S j || decide (j = y)) (if S y = true then n else n + 1))) s' → Q .none s') :
    wpAny (model X.prog X.w) X.A (call (.builtin "set.add") [.ref D, .int y t]) Q E s :=
  setR_add (setO_get I hD) few fun h' same now =>
    have there : ∃ u, h'.get? D = some u := let ⟨o, _, _, _, ho, _⟩ := now; ⟨o, ho⟩
    go _ (I.write (e := D) (t' := s.toks + 1) (by rw [hD]; trivial) (.inl rfl) (fun b u ne hu => (same.2 b ne).trans hu) there (setO_new now))

/-- what {e for x in .. if ..} asks where e is an int -/
def tScI (w : World) (wi : TI) (g : TG) (tt : TT) (te : TE) (vs : List Nat) : TE := fun σ H Q => wi σ H fun J H1 => ∀ D, H1 D = none →
  ∃ W : Nat → Nat → Hp → Prop, (∃ m, W 0 m (upd H1 D (SetO w D (fun _ => false) 0))) ∧ ∀ i m H, W i m H → (J.stop i H ∧ Q (.ref D) H) ∨
    (J.go i H ∧ ∃ Nx : Hp → Prop, (∀ H', Nx H' → ∃ m', m' < m ∧ W (i + 1) m' H') ∧ ∀ x H', J.yld i H x H' → g x (wipe σ vs) H' fun σ2 H2 => wipe σ2 vs = wipe σ vs ∧
      tt σ2 H2 fun b H3 => if b = true then te σ2 H3 fun y H4 => ∃ (k : Int) (S : Int → Bool) (n : Nat), y = .int k ∧ H4 D = some (SetO w D S n) ∧ n + 1 < scanBound ∧
        Nx (upd H4 D (SetO w D (fun j => S j || decide (j = k)) (if S k = true then n else n + 1))) else Nx H3)

abbrev emptySet (w : World) : Obj := { cls := .type "set", dict := none, data := .set #[] 0 (.fresh 0 0 (!w.params.followText "set-order")) }

theorem pe_scI {elt tg iter : Expr} {ifs : List Expr} {scope : Scope} {own : List (PySem.Str × Nat)} {pos : Pos} {wi : TI} {g : TG} {tt : TT} {te : TE}
    (hc : X.calm = true) (hN : X.N.Nodup) (hi : PI X tg iter wi) (ok : BlkOk X.N X.env.scope scope own)
    (hg : ∀ (s : Shared) (H : Hp) (C : Addr) (cl : List (PySem.Str × Addr)) (fp : List Addr), PG (X.blk s H scope (compEnvC scope cl C X.env) fp) tg g)
    (ht : ∀ (s : Shared) (H : Hp) (C : Addr) (cl : List (PySem.Str × Addr)) (fp : List Addr), PTs (X.blk s H scope (compEnvC scope cl C X.env) fp) ifs tt)
    (he : ∀ (s : Shared) (H : Hp) (C : Addr) (cl : List (PySem.Str × Addr)) (fp : List Addr), PE (X.blk s H scope (compEnvC scope cl C X.env) fp) elt te)
    (hs : ∀ x, foldedSetIterable iter X.env x = pure x := by intro _; rfl) :
    PE X (.SetComp elt [⟨tg, iter, ifs, 0⟩] scope pos) (tScI X.w wi g tt te (own.map (·.2))) := by
  refine ⟨fun pins s σ H Q I h => ?_⟩
  rw [eval_SetComp]
  have caught : ∀ y ∈ scope.names, y.2 = .free → ∃ c, X.env.cells.lookup y.1 = some c := fun y hy e =>
    (ok.free y hy e).elim (fun k => I.ok.has _ (.inl k)) fun k => I.ok.has _ (.inr k)
  refine wpAny_comprehension_free (use := none) rfl hs (closure_ok caught) ok.kind (fun y hy e => (ok.uniq y hy).trans (by rw [e])) (thn (hi.run pins s σ H _ I h) fun xv s1 hx => thn hx fun itv s2 h2 => ?_)
  obtain ⟨it, fp, tn, J, H2, rfl, I2, T, st2, f2, q⟩ := h2
  refine newSet_ok (newEnv_comp ?_)
  -- the new set's place
  obtain ⟨D, hD⟩ : ∃ D, s2.heap.objs.size = D := ⟨_, rfl⟩
  rw [hD]
  obtain ⟨W, ⟨m0, w0⟩, turn⟩ := q D (I2.hok.fresh (Nat.le_of_eq hD))
  obtain ⟨s3, hs3⟩ : ∃ s3 : Shared, { s2 with heap := s2.heap.push (emptySet X.w) } = s3 := ⟨_, rfl⟩
  have h3 : s3.heap = s2.heap.push (emptySet X.w) := by rw [← hs3]
  have I3 : Inv X pins σ (upd H2 D (SetO X.w D (fun _ => false) 0)) s3 := by
    have z := I2.laid (a := D) (o := SetO X.w D (fun _ => false) 0) (t' := s2.toks) (h' := s2.heap.push (emptySet X.w)) (fun b o e => Heap.get?_push_of_some _ e) (Nat.le_of_eq hD) (by rw [← hD]; exact setO_new (setR_fresh X.w))
    exact hs3 ▸ z
  have low : ∀ b ∈ fp, b < s2.heap.objs.size := fun b hb => let ⟨o, e, _⟩ := T.obj _ _ st2 b hb; Heap.lt_size e
  have f3 : ∀ b ∈ fp, FpOk X pins (upd H2 D (SetO X.w D (fun _ => false) 0)) b ∧ b < s3.heap.objs.size := fun b hb =>
    ⟨⟨(upd_ne (by rw [← hD]; exact Nat.ne_of_lt (low b hb))).trans (f2 b hb).1, (f2 b hb).2⟩, by rw [h3, Heap.size_push]; exact Nat.lt_succ_of_lt (low b hb)⟩
  have st3 : tn 0 s3.heap := T.keep _ _ _ st2 fun b _ o e => h3 ▸ Heap.get?_push_of_some _ e
  have I4 := block_start I3 ok hN f3
  obtain ⟨H3, hH3⟩ : ∃ H3, upd H2 D (SetO X.w D (fun _ => false) 0) = H3 := ⟨_, rfl⟩
  rw [hH3] at I3 f3 I4 w0
  obtain ⟨C, hC⟩ : ∃ C, s3.heap.objs.size = C := ⟨_, rfl⟩
  rw [hC] at I4
  have pg := hg s3 H3 C (cellsFrom (C + 1) scope.names (cloFrom X.env.cells scope.names [])) fp
  have pt := ht s3 H3 C (cellsFrom (C + 1) scope.names (cloFrom X.env.cells scope.names [])) fp
  have pe := he s3 H3 C (cellsFrom (C + 1) scope.names (cloFrom X.env.cells scope.names [])) fp
  subst hs3
  have hC' : (s2.heap.push (emptySet X.w)).objs.size = C := hC
  show codeAny _ _ (.compStart (.SetComp elt [⟨tg, iter, ifs, 0⟩] scope pos) 0 (.ref it) (.ref D) (compEnvC scope (cellsFrom ((s2.heap.push (emptySet X.w)).objs.size + 1) scope.names (cloFrom X.env.cells scope.names [])) (s2.heap.push (emptySet X.w)).objs.size X.env))
    (compPost (model X.prog X.w) X.A X.xe none (EP X pins σ Q) (.ref D) (s2.heap.push (emptySet X.w)).objs.size) { s2 with heap := pushCells ((s2.heap.push (emptySet X.w)).push { cls := .type "dict", data := .dict #[] }) scope.names }
  rw [hC']
  obtain ⟨ce, hce⟩ : ∃ ce, compEnvC scope (cellsFrom (C + 1) scope.names (cloFrom X.env.cells scope.names [])) C X.env = ce := ⟨_, rfl⟩
  rw [hce] at I4 pg pt pe ⊢
  have cL : ce.locals = C := by subst hce; rfl
  obtain ⟨s4, hs4⟩ : ∃ s4 : Shared, { s2 with heap := pushCells ((s2.heap.push (emptySet X.w)).push { cls := .type "dict", data := .dict #[] }) scope.names } = s4 := ⟨_, rfl⟩
  have I4 : Inv (X.blk _ H3 scope ce fp) [] (wipe σ (own.map (·.2))) H3 s4 := hs4 ▸ I4
  rw [hs4]
  have st4 : tn 0 s4.heap := T.keep _ _ _ st3 fun b _ o e => by rw [← hs4]; exact pushCells_keeps _ _ _ _ (Heap.get?_push_of_some _ e)
  obtain ⟨Y, hY⟩ : ∃ Y, X.blk { s2 with heap := s2.heap.push (emptySet X.w) } H3 scope ce fp = Y := ⟨_, rfl⟩
  have rest : ∀ {σ' : L2.St} {H' : Hp} {s' : Shared}, Inv Y [] σ' H' s' → (∀ b ∈ fp, H' b = none) → ∀ b ∈ fp, FpOk Y [] H' b := by
    subst hY
    intro σ' H' s' I' hn b hb
    exact ⟨hn b hb, (I'.ok.exf b hb).1, I'.ok.exfs b hb, .inl hb, fun x c e => (I'.ok.exf b hb).2 x c e, fun p hp => absurd (show p ∈ ([] : List (Addr × Obj)) ++ [] from hp) (by simp)⟩
  have round : codeAny (model X.prog X.w) X.A (.compLoop (.SetComp elt [⟨tg, iter, ifs, 0⟩] scope pos) 0 (.ref it) (.ref D) ce) (compPost (model X.prog X.w) X.A X.xe none (EP X pins σ Q) (.ref D) C) s4 := by
    refine compLoopS_any (fun n s' => ∃ i H', Inv Y [] (wipe σ (own.map (·.2))) H' s' ∧ tn i s'.heap ∧ (∀ b ∈ fp, H' b = none) ∧ W i n H') ?_ m0 ⟨0, H3, hY ▸ I4, st4, fun b hb => (f3 b hb).1.1, w0⟩
    rintro n s5 ⟨i, H5, I5, st5, n5, w5⟩
    rcases turn i n H5 w5 with ⟨stop, qq⟩ | ⟨go, Nx, hNx, step⟩
    · subst hY
      refine thnF (T.done (X.blk _ H3 scope ce fp) rfl rfl rfl hc i [] s5 _ H5 (fun _ _ => False) I5 (rest I5 n5) st5 stop) fun r s6 ⟨hr, I6⟩ => ?_
      subst hr
      have I7 : Inv X pins σ H5 s6 := I3.call' (ch := fp) I6.os I6.base I6.hok I6.bare fun b hb => ⟨(f3 b hb).1.2.2.2.1, (f3 b hb).1.2.1, (f3 b hb).1.2.2.2.2.1, (f3 b hb).1.2.2.2.2.2⟩
      have nC : H5 C = none := cL ▸ (show H5 ce.locals = none from I6.free)
      obtain ⟨m, hn, _⟩ := I6.loc
      have hn : s6.heap.Ns C m := cL ▸ (show s6.heap.Ns ce.locals m from hn)
      refine ⟨m, hn, fun h'' sb => ?_⟩
      obtain ⟨g0, g1, g2, g3, g4, g5⟩ := I3.fpOk (Nat.le_of_eq hC) nC
      exact ⟨.ref D, H5, I7.turned (t' := s6.toks) (fun b o hb e => (sb.2 b hb).trans e) g0 g1 g3 g4 g5, rfl, qq⟩
    · have ti := T.item Y (by subst hY; rfl) (by subst hY; rfl) (by subst hY; rfl) (by subst hY; exact hc) i [] s5 _ H5 (fun _ _ => False) I5 (rest I5 n5) st5 go
      subst hY
      refine thnF ti fun r s6 ⟨u, hr, h6⟩ => ?_
      subst hr
      refine thnF h6 fun _ s7 ⟨x, H7, I7, r7, y7, st7, n7⟩ => ?_
      refine thnF (pg.run _ s7 _ H7 x u _ (I7.pinned (rest I7 n7) (T.obj _ _ st7)) r7 (step x H7 y7)) fun _ s8 ⟨σ8, H8, I8, hw8, q8⟩ => ?_
      refine thnF (pt.run _ s8 σ8 H8 _ I8 q8) fun b s9 ⟨H9, I9, q9⟩ => ?_
      have turned : ∀ {s' : Shared} {H' : Hp}, Inv (X.blk { s2 with heap := s2.heap.push (emptySet X.w) } H3 scope ce fp) ([] ++ pinsAt fp s7.heap) σ8 H' s' → Nx H' → ∃ m, m < n ∧ ∃ i H', Inv (X.blk { s2 with heap := s2.heap.push (emptySet X.w) } H3 scope ce fp) [] (wipe σ (own.map (·.2))) H' s' ∧ tn i s'.heap ∧ (∀ b ∈ fp, H' b = none) ∧ W i m H' := by
        intro s' H' I' nx
        obtain ⟨m', hm, w'⟩ := hNx H' nx
        have pin : ∀ b ∈ fp, ∀ o, s7.heap.get? b = some o → s'.heap.get? b = some o ∧ H' b = none := fun b hb o e =>
          let z := I'.pin (b, o) (List.mem_append_right _ (List.mem_append_right _ (mem_pinsAt hb e))); ⟨z.1, z.2.1⟩
        refine ⟨m', hm, i + 1, H', (I'.unpinned (pins := [])).weak (by rw [← hw8, wipe_length]) (fun j v e => (wipe_some (by rw [hw8]; exact e)).1), T.keep _ _ _ st7 fun b hb o e => (pin b hb o e).1, fun b hb => ?_, w'⟩
        obtain ⟨o, e, _⟩ := T.obj _ _ st7 b hb
        exact (pin b hb o e).2
      cases b with
      | false => simp only [Bool.false_eq_true, if_false] at q9 ⊢; exact turned I9 q9
      | true =>
        simp only [if_true] at q9 ⊢
        refine thnF (pe.run _ s9 σ8 H9 _ I9 q9) fun z s10 ⟨yv, H10, I10, r10, k, S0, n0, ey, hD10, few, nx⟩ => ?_
        subst ey
        obtain ⟨t, rfl⟩ := r10
        exact putInt (X := X.blk _ H3 scope ce fp) I10 hD10 few fun s11 I11 => turned I11 nx
  exact codeAny_compStart_set round (T.self X.A 0 _ _ _ st4 round)

/-- the walk over a list that the block leaves as it is -/
theorem scI_list {w : World} {K : PySem.W.Frag} {a : Addr} {xs : List V} {g : TG} {tt : TT} {te : TE} {vs : List Nat} {σ : L2.St} {H1 : Hp} {D : Addr} {Qd : Hp → Prop}
    (Pv : Nat → Hp → Prop) (h0 : Pv 0 (upd H1 D (SetO w D (fun _ => false) 0))) (hl : ∀ i H, i ≤ xs.length → Pv i H → SqL K H a xs)
    (hs : ∀ i x H, xs[i]? = some x → Pv i H → g x (wipe σ vs) H fun σ2 H2 => wipe σ2 vs = wipe σ vs ∧ tt σ2 H2 fun b H3 => if b = true then te σ2 H3 fun y H4 =>
      ∃ (k : Int) (S : Int → Bool) (n : Nat), y = .int k ∧ H4 D = some (SetO w D S n) ∧ n + 1 < scanBound ∧ Pv (i + 1) (upd H4 D (SetO w D (fun j => S j || decide (j = k)) (if S k = true then n else n + 1))) else Pv (i + 1) H3)
    (hd : ∀ H, Pv xs.length H → Qd H) :
    ∃ W : Nat → Nat → Hp → Prop, (∃ m, W 0 m (upd H1 D (SetO w D (fun _ => false) 0))) ∧ ∀ i m H, W i m H → ((Itl K a).stop i H ∧ Qd H) ∨
      ((Itl K a).go i H ∧ ∃ Nx : Hp → Prop, (∀ H', Nx H' → ∃ m', m' < m ∧ W (i + 1) m' H') ∧ ∀ x H', (Itl K a).yld i H x H' → g x (wipe σ vs) H' fun σ2 H2 => wipe σ2 vs = wipe σ vs ∧
        tt σ2 H2 fun b H3 => if b = true then te σ2 H3 fun y H4 => ∃ (k : Int) (S : Int → Bool) (n : Nat), y = .int k ∧ H4 D = some (SetO w D S n) ∧ n + 1 < scanBound ∧
          Nx (upd H4 D (SetO w D (fun j => S j || decide (j = k)) (if S k = true then n else n + 1))) else Nx H3) := by
  refine ⟨fun i m H => m + i = xs.length ∧ Pv i H, ⟨xs.length, by simp, h0⟩, ?_⟩
  rintro i m H ⟨em, p⟩
  have here := hl i H (by omega) p
  rcases Nat.lt_or_ge i xs.length with lt | ge
  · refine .inr ⟨⟨xs, xs[i], here, by simp [lt]⟩, Pv (i + 1), fun H' p' => ⟨m - 1, by omega, by omega, p'⟩, fun x H' ⟨e, y⟩ => ?_⟩
    subst e
    exact hs i x _ (y xs here) p
  · have e : i = xs.length := by omega
    subst e
    exact .inl ⟨⟨xs, here, Nat.le_refl _⟩, hd H p⟩
end addi
end Rp

namespace Rp
open PySem PySem.Spec PyProof.Rows L2 PpSet
section
variable {P : Program} {w : World} {A : Around} {E : Value → Shared → Prop} {s : Shared}
set_option maxHeartbeats 6400000 in
theorem set_of_list {l : Addr} {items : Array Value} (ns : List Int) {Q : Value → Shared → Prop} (calm : A.handled = none) (hl : s.heap.IsList l items) (hi : IntsAre items.toList ns) (few : ns.length + 1 < scanBound)
    (go : ∀ (h' : Heap) (tk c : Nat), SetR w h' s.heap.objs.size (fun j => decide (j ∈ ns)) c → c ≤ ns.length → (∀ b o, s.heap.get? b = some o → h'.get? b = some o) → Q (.ref s.heap.objs.size) { s with heap := h', toks := tk }) :
    wpAny (model P w) A (call (.type "set") [.ref l]) Q E s := by
  have cnt : items.size = ns.length := by have q := IntsAre.length hi; rwa [Array.length_toList] at q
  obtain ⟨c, tl, hmro⟩ := F.called_set.mro
  have hmade := F.called_set.made
  have hsub := F.called_set.sub
  refine wpAny_call (codeAny_of_tree ?_)
  show wpAny _ _ (callAny (.type "set") _) _ _ _
  refine wpAny_pure ⟨Code.quiet_builtin _ (by decide +kernel), codeAny_builtin F.entry_type_call ?_⟩
  rw [Around.under_plain (weight_type_call_type "set" [.ref l] []) rfl]
  have h1 := F.called_set.notType
  have h2 := F.called_set.canCreate
  have hct := F.typeCall_set_1 (.ref l)
  repeat (any_goals (first | assumption | wp_step))
  refine codeAny_mono (code_set_led1 (.ref l) (E := E) (Q₁ := fun obj z => obj = .ref s.heap.objs.size ∧ z = { s with heap := s.heap.push (emptySet w) }) ⟨rfl, rfl⟩) fun r s₁ hr => ?_
  cases r with
  | error e => exact hr
  | ok fl =>
    cases fl with
    | ret obj =>
      obtain ⟨rfl, rfl⟩ := hr
      have atNew : (s.heap.push (emptySet w)).get? s.heap.objs.size = some (emptySet w) := Heap.get?_push_size _ rfl
      have hT : Shared.TypeIs { s with heap := s.heap.push (emptySet w) } (.ref s.heap.objs.size) "set" := ⟨_, atNew, rfl⟩
      have hli := F.called_set.init.lookup
      have hbi := F.called_set.init.bind (.ref s.heap.objs.size)
      repeat (any_goals (first | assumption | wp_step))
      refine codeAny_mono (codeAny_call_builtin (R := wants (fun r z => r = .none ∧ ∃ h' tk c, z = { s with heap := h', toks := tk } ∧ SetR w h' s.heap.objs.size (fun j => decide (j ∈ ns)) c ∧ c ≤ ns.length ∧
        (∀ b o, s.heap.get? b = some o → h'.get? b = some o)) E) F.called_set.init.plain F.entry_set_init (check_set_init_1 hT ?_)) fun r₂ s₂ hr₂ => ?_
      · obtain ⟨⟨ocls, odict, odata, oslots⟩, hol, hcl, nl, hdl⟩ := hl
        simp only at hcl hdl
        subst hcl hdl
        have hol' : (s.heap.push (emptySet w)).get? l = some { cls := .type "list", dict := odict, data := .seq items nl, slots := oslots } := Heap.get?_push_of_some _ hol
        have hsls := F.sub_list_set
        have hslf := F.sub_list_frozenset
        have hne : (Value.type "list" == Value.type "dict") = false := by decide
        have here : (s.heap.push (emptySet w)).IsList l items := ⟨_, hol', rfl, nl, rfl⟩
        unfold Builtin.«set.__init__» noKeywords Builtin.Frozenset.updateFrom
        generalize hPI : pyIter = PI
        wp_walk
        subst hPI
        refine wpAny_pyIter_list here (wpAny_bind (wpAny_runValue ?_))
        have below : l < s.heap.objs.size := Heap.lt_size hol
        have top : (s.heap.push (emptySet w)).objs.size = s.heap.objs.size + 1 := Heap.size_push ..
        have apart : l ≠ (s.heap.push (emptySet w)).objs.size := by rw [top]; exact Nat.ne_of_lt (Nat.lt_succ_of_lt below)
        have out : s.heap.objs.size ∉ [(s.heap.push (emptySet w)).objs.size, l] := by
          simp only [List.mem_cons, List.not_mem_nil, or_false, not_or, top]
          exact ⟨Nat.ne_of_lt (Nat.lt_succ_self _), Nat.ne_of_gt below⟩
        have each : ∀ (i : Nat) (v : Value), items[i]? = some v → ∃ k t, ns[i]? = some k ∧ v = .int k t := by
          intro i v hv
          have lt : i < ns.length := by rw [← cnt]; exact (Array.getElem?_eq_some_iff.mp hv).1
          obtain ⟨t, e⟩ := PyProof.Rows.IntsAre.int_at hi i v (by rw [Array.getElem?_toList]; exact hv)
          exact ⟨ns[i], t, List.getElem?_eq_getElem lt, by rw [e, List.getD_eq_getElem?_getD, List.getElem?_eq_getElem lt]; rfl⟩
        refine set_update_ints ((Walks.list (by simp [calm]) _ l apart items).toS) s.heap.objs.size out ns cnt few each (items.size - 0) 0 _ (by omega) (Nat.zero_le _)
          ⟨⟨_, Heap.get?_push_size _ rfl, rfl, rfl⟩, here.push _⟩ ⟨0, Nat.le_refl 0, setR_new_at (Heap.get?_push_of_some _ atNew)⟩ fun s' c' hm hc' hS' => ?_
        obtain ⟨h', g2, d', tk', os'⟩ := s'
        have eg : g2 = s.gens := hm.gens
        have ed : d' = s.drawn := hm.drawn
        have eo : os' = s.os := hm.os
        subst eg ed eo
        show wpAny _ _ _ _ _ _
        refine wpAny_pure ?_
        show wpAny _ _ (ret Value.none) _ _ _
        refine wpAny_pure ⟨rfl, h', tk', c', rfl, hS', by omega, fun b o e => ?_⟩
        have lt := Heap.lt_size e
        exact hm.heap b o (by simp only [List.mem_cons, List.not_mem_nil, or_false, not_or, top]; exact ⟨Nat.ne_of_lt lt, Nat.ne_of_lt (Nat.lt_succ_of_lt lt)⟩) (Heap.get?_push_of_some _ (Heap.get?_push_of_some _ e))
      · cases r₂ with
        | error e => exact hr₂
        | ok fl₂ =>
          cases fl₂ with
          | ret r =>
            obtain ⟨rfl, h', tk, c', rfl, hS', hc', hk'⟩ := hr₂
            repeat (any_goals (first | assumption | wp_step))
            exact go _ _ _ hS' hc' hk'
          | _ => exact hr₂.elim
    | _ => exact hr.elim
end
section
variable {X : Cx}
theorem intsOf : ∀ {ns : List Int} {us : List Value}, Vals (ns.map V.int) us → PyProof.Rows.IntsAre us ns
  | [], _, .nil => .nil
  | n :: ns, _, .cons ⟨k, e⟩ t => by subst e; exact .cons n k (intsOf t)
/-- set(xs), xs a list of ints -/
def rSetI (K : PySem.W.Frag) (w : World) : List V → Hp → VK → Prop := fun vs H Q => ∃ (a : Addr) (ns : List Int), vs = [V.ref a] ∧ SqL K H a (ns.map V.int) ∧ ns.length < 1000 ∧
  ∀ (p : Addr) (c : Nat), H p = none → c ≤ ns.length → Q (.ref p) (upd H p (SetO w p (fun j => decide (j ∈ ns)) c))
theorem cr_setI (hc : X.calm = true) : CallR X (.type "set") (rSetI X.K X.w) := by
  intro pins s σ H vs us Q I r h
  obtain ⟨a, ns, rfl, hs, hn, q⟩ := h
  rw [Vals.ref1 r]
  obtain ⟨its, rv, pl, hz⟩ := I.list hs
  refine set_of_list ns (I.ok.hd hc) pl.isList (by simpa using intsOf rv) (by unfold scanBound; omega) fun h' tk c R hc' k => ?_
  have hn : H s.heap.objs.size = none := I.hok.fresh (Nat.le_refl _)
  exact ⟨.ref _, upd H s.heap.objs.size (SetO X.w s.heap.objs.size (fun j => decide (j ∈ ns)) c), I.laid (t' := tk) k (Nat.le_refl _) (setO_new R), rfl, q _ c hn hc'⟩
end
end Rp

namespace Rp
open PySem L2
/-! ### TERMs -/
inductive Tm where
  | v (n : Int) | z | s (t : Tm) | f (l r : Tm)
  deriving DecidableEq
namespace Tm
def size : Tm → Nat
  | v _ => 1 | z => 1 | s t => t.size + 1 | f l r => l.size + r.size + 1
def deep : Tm → Nat
  | v _ => 0 | z => 0 | s t => t.deep + 1 | f l r => max l.deep r.deep + 1
def nums : Tm → List Int
  | v n => [n] | z => [] | s t => t.nums | f l r => l.nums ++ r.nums
/-- all parts, the whole first, the right-hand ones ahead of the left-hand ones -/
def rpost : Tm → List Tm
  | v n => [v n] | z => [z] | s t => s t :: t.rpost | f l r => f l r :: (r.rpost ++ l.rpost)
def kids : Tm → List Tm
  | v _ => [] | z => [] | s t => [t] | f l r => [l, r]
theorem size_pos : ∀ t : Tm, 1 ≤ t.size
  | v _ => Nat.le_refl _ | z => Nat.le_refl _ | s _ => by unfold size; omega | f _ _ => by unfold size; omega
theorem deep_lt : ∀ t : Tm, t.deep < t.size
  | v _ => Nat.zero_lt_one | z => Nat.zero_lt_one | s t => by have := deep_lt t; unfold deep size; omega
  | f l r => by have := deep_lt l; have := deep_lt r; unfold deep size; omega
theorem rpost_len : ∀ t : Tm, t.rpost.length = t.size
  | v _ => rfl | z => rfl | s t => by unfold rpost size; rw [List.length_cons, rpost_len t]
  | f l r => by unfold rpost size; rw [List.length_cons, List.length_append, rpost_len l, rpost_len r]; omega
/-- an int among the parts -/
theorem mem_rpost (n : Int) : ∀ t : Tm, v n ∈ t.rpost ↔ n ∈ t.nums
  | v m => by unfold rpost nums; simp
  | z => by unfold rpost nums; simp
  | s t => by unfold rpost nums; have := mem_rpost n t; simp [this]
  | f l r => by unfold rpost nums; have := mem_rpost n l; have := mem_rpost n r; simp [*]; exact Or.comm
theorem rpost_kids (t : Tm) : t.rpost = t :: (t.kids.reverse.flatMap rpost) := by
  cases t <;> simp [rpost, kids]
theorem kids_size (t : Tm) : (t.kids.map size).sum + 1 = t.size := by
  cases t <;> simp [kids, size] <;> omega
theorem nums_len : ∀ t : Tm, t.nums.length ≤ t.size
  | v _ => Nat.le_refl _ | z => Nat.zero_le _ | s t => by have := nums_len t; unfold nums size; omega
  | f l r => by have := nums_len l; have := nums_len r; unfold nums size; rw [List.length_append]; omega
/-- all signs, as law's leaves has them -/
def signs : Tm → List V
  | v n => [.int n] | z => [.str "0"] | s t => .str "s" :: t.signs | f l r => .str "f" :: (l.signs ++ r.signs)
theorem signs_len : ∀ t : Tm, t.signs.length = t.size
  | v _ => rfl | z => rfl | s t => by unfold signs size; rw [List.length_cons, signs_len t]
  | f l r => by unfold signs size; rw [List.length_cons, List.length_append, signs_len l, signs_len r]
end Tm
/-- the ints of a row of ints and texts -/
def rowInts : List V → List Int
  | [] => []
  | .int n :: r => n :: rowInts r
  | _ :: r => rowInts r
theorem rowInts_append : ∀ a b : List V, rowInts (a ++ b) = rowInts a ++ rowInts b
  | [], b => rfl
  | x :: r, b => by cases x <;> simp [rowInts, rowInts_append r b]
theorem signs_nums : ∀ t : Tm, rowInts t.signs = t.nums
  | .v _ => rfl | .z => rfl | .s t => by simp [Tm.signs, Tm.nums, rowInts, signs_nums t]
  | .f l r => by simp [Tm.signs, Tm.nums, rowInts, rowInts_append, signs_nums l, signs_nums r]
/-- a row of ints and texts -/
def Flat2 : V → Prop
  | .int _ => True
  | .str _ => True
  | _ => False
theorem signs_flat : ∀ t : Tm, ∀ x ∈ t.signs, Flat2 x
  | .v _, x, h => by simp [Tm.signs] at h; subst h; trivial
  | .z, x, h => by simp [Tm.signs] at h; subst h; trivial
  | .s t, x, h => by
    simp only [Tm.signs, List.mem_cons] at h
    rcases h with h | h
    · subst h; trivial
    · exact signs_flat t x h
  | .f l r, x, h => by
    simp only [Tm.signs, List.mem_cons, List.mem_append] at h
    rcases h with h | h | h
    · subst h; trivial
    · exact signs_flat l x h
    · exact signs_flat r x h
/-! ### two rising rows of the same ints are one -/
theorem rising_one : ∀ {a b : List Int}, a.Pairwise (· < ·) → b.Pairwise (· < ·) → (∀ k, k ∈ a ↔ k ∈ b) → a = b
  | [], [], _, _, _ => rfl
  | [], y :: b, _, _, h => by have := (h y).2 (by simp); simp at this
  | x :: a, [], _, _, h => by have := (h x).1 (by simp); simp at this
  | x :: a, y :: b, ha, hb, h => by
    rw [List.pairwise_cons] at ha hb
    have exy : x = y := by
      rcases List.mem_cons.mp ((h x).1 (by simp)) with e | e
      · exact e
      · rcases List.mem_cons.mp ((h y).2 (by simp)) with e' | e'
        · exact e'.symm
        · have := hb.1 x e
          have := ha.1 y e'
          omega
    subst exy
    rw [rising_one ha.2 hb.2 fun k => ?_]
    constructor
    · intro hk
      rcases List.mem_cons.mp ((h k).1 (List.mem_cons_of_mem _ hk)) with e | e
      · have := ha.1 k hk; omega
      · exact e
    · intro hk
      rcases List.mem_cons.mp ((h k).2 (List.mem_cons_of_mem _ hk)) with e | e
      · have := hb.1 k hk; omega
      · exact e
/-! ### heaps -/
/-- all but b stays -/
def But (b : Addr) (H H' : Hp) : Prop := ∀ c o, H c = some o → c ≠ b → H' c = some o
theorem But.refl (b : Addr) (H : Hp) : But b H H := fun _ _ h _ => h
theorem But.trans {b : Addr} {H H1 H2 : Hp} (x : But b H H1) (y : But b H1 H2) : But b H H2 := fun c o h n => y c o (x c o h n) n
theorem but_of {b : Addr} {H H' : Hp} (x : Same H H') : But b H H' := fun c o h _ => x c o h
theorem same_new {H : Hp} {p : Addr} (h : H p = none) (o : HO) : Same H (upd H p o) := fun b u q => by rw [upd_ne (ne_of_none q h)]; exact q
theorem but_upd {H : Hp} {b : Addr} (o : HO) : But b H (upd H b o) := fun c u h n => by rw [upd_ne n]; exact h
/-- the box of draws: j bounds how often it was drawn from -/
structure BoxAt (H : Hp) (b : Addr) (j : Nat) : Prop where
  ex : ∃ x y z : Int, H b = some (.lst [.int x, .int y, .int z]) ∧ 0 ≤ x ∧ 0 ≤ y ∧ y < 10000000000 ∧ 0 ≤ z ∧ z ≤ (j : Int)
theorem BoxAt.same {H H' : Hp} {b : Addr} {j : Nat} (B : BoxAt H b j) (e : Same H H') : BoxAt H' b j := by
  obtain ⟨x, y, z, h, r⟩ := B.ex
  exact ⟨x, y, z, e _ _ h, r⟩
theorem BoxAt.more {H : Hp} {b : Addr} {j k : Nat} (B : BoxAt H b j) (h : j ≤ k) : BoxAt H b k := by
  obtain ⟨x, y, z, e, h1, h2, h3, h4, h5⟩ := B.ex
  exact ⟨x, y, z, e, h1, h2, h3, h4, by omega⟩
theorem BoxAt.some {H : Hp} {b : Addr} {j : Nat} (B : BoxAt H b j) : ∃ xs, H b = some (.lst xs) := by
  obtain ⟨x, y, z, e, _⟩ := B.ex
  exact ⟨_, e⟩
/-- a TERM stands as the value v -/
inductive TmAt (H : Hp) : V → Tm → Prop where
  | v (n : Int) : TmAt H (.int n) (.v n)
  | z {a : Addr} (h : H a = some (.tup [.str "0"])) : TmAt H (.ref a) .z
  | s {a : Addr} {x : V} {t : Tm} (h : H a = some (.tup [.str "s", x])) (q : TmAt H x t) : TmAt H (.ref a) (.s t)
  | f {a : Addr} {x y : V} {l r : Tm} (h : H a = some (.tup [.str "f", x, y])) (q : TmAt H x l) (q' : TmAt H y r) : TmAt H (.ref a) (.f l r)
theorem TmAt.mono {H H' : Hp} (e : ∀ a xs, H a = some (.tup xs) → H' a = some (.tup xs)) {v : V} {t : Tm} (h : TmAt H v t) : TmAt H' v t := by
  induction h with
  | v n => exact .v n
  | z h => exact .z (e _ _ h)
  | s h _ ih => exact .s (e _ _ h) ih
  | f h _ _ ih ih' => exact .f (e _ _ h) ih ih'
theorem TmAt.same {H H' : Hp} (e : Same H H') {v : V} {t : Tm} (h : TmAt H v t) : TmAt H' v t := h.mono fun a xs q => e a _ q
theorem TmAt.but {H H' : Hp} {b : Addr} {ys : List V} (e : But b H H') (hb : H b = some (.lst ys)) {v : V} {t : Tm} (h : TmAt H v t) : TmAt H' v t :=
  h.mono fun a xs q => e a _ q (ne_of q hb (by intro z; cases z))
/-! ### what is alike, kind by kind (to a depth) -/
def Plain : V → Prop
  | .non => True
  | .bl _ => True
  | .int _ => True
  | .str _ => True
  | _ => False
def Alike (H : Hp) : Nat → V → V → Prop
  | 0, x, y => Plain x ∧ x = y
  | n + 1, x, y => (Plain x ∧ x = y) ∨ ∃ a b xs ys, x = .ref a ∧ y = .ref b ∧ ((H a = some (.lst xs) ∧ H b = some (.lst ys)) ∨ (H a = some (.tup xs) ∧ H b = some (.tup ys))) ∧
      xs.length = ys.length ∧ xs.length ≤ 1000000 ∧ ∀ (i : Nat) (u v : V), xs[i]? = some u → ys[i]? = some v → Alike H n u v
theorem Alike.mono {H H' : Hp} (e : Same H H') : ∀ (n : Nat) {x y : V}, Alike H n x y → Alike H' n x y
  | 0, _, _, h => by unfold Alike at h ⊢; exact h
  | n + 1, x, y, h => by
    unfold Alike at h ⊢
    rcases h with h | ⟨a, b, xs, ys, h1, h2, h3, h4, h5, h6⟩
    · exact .inl h
    · exact .inr ⟨a, b, xs, ys, h1, h2, h3.imp (fun q => ⟨e _ _ q.1, e _ _ q.2⟩) (fun q => ⟨e _ _ q.1, e _ _ q.2⟩), h4, h5, fun i u v p q => Alike.mono e n (h6 i u v p q)⟩
theorem alike_ints {H : Hp} {n : Nat} {a b : Addr} {ns : List Int} (ha : H a = some (.lst (ns.map V.int))) (hb : H b = some (.lst (ns.map V.int))) (hl : ns.length ≤ 1000000) : Alike H (n + 1) (.ref a) (.ref b) := by
  unfold Alike
  refine .inr ⟨a, b, _, _, rfl, rfl, .inl ⟨ha, hb⟩, rfl, by rw [List.length_map]; exact hl, fun i u v h1 h2 => ?_⟩
  have e : u = v := Option.some.inj (h1.symm.trans h2)
  subst e
  rw [List.getElem?_map] at h1
  cases q : ns[i]? with
  | none => rw [q] at h1; cases h1
  | some k =>
    rw [q] at h1
    cases h1
    cases n with
    | zero => unfold Alike; exact ⟨trivial, rfl⟩
    | succ n => unfold Alike; exact .inl ⟨trivial, rfl⟩
end Rp

/-! Defs whose body asks for the repr of lists and tuples: their promise is kept where no repr is at work (the around's guards are told to be none), and so where the law itself is called. -/
namespace Rp
open PySem PySem.Spec PyProof.Rows L2
structure GnOk (P : Program) (w : World) (K : PySem.W.Frag) (mg : Str → Option Value) (base : Heap) (k : Nat) (f : Addr) (fd : FuncData) (ps : List Str) (sp : Sp) : Prop where
  len : ∀ vs H Q E, sp vs H Q E → vs.length = ps.length
  run : ∀ (A : Around) (outer : List Env) (s : Shared) (H : Hp) (args : Args) (us : List Value) (vs : List V) (Q : VK) (E : XK), A.guards = some [] → Room k A → Env0 P w K mg base A outer s H → BindsTo s fd args (ps.zip us) → Vals vs us → sp vs H Q E →
    codeAny (model P w) A (.call (.ref f) args) (CR CX0 outer P w H s Q E) s
section
variable {P : Program} {w : World} {K : PySem.W.Frag} {mg : Str → Option Value} {base : Heap}
/-- a def by its body, the guards told -/
theorem gok {x qual : Str} {st : Stmt} {f : Addr} {fd : FuncData} {N ps : List Str} {k : Nat} {sp : Sp} (F : Fun K x qual st f fd) (S : FnScope N ps (defScope st)) (len : ∀ vs H Q E, sp vs H Q E → vs.length = ps.length)
    (walk : ∀ (cdv : Value) (A : Around) (outer : List Env) (s : Shared) (H : Hp) (vs : List V) (Q : VK) (E : XK), A.guards = some [] → Room k (A.deeper (envOfC qual (defScope st) s.heap.objs.size f cdv)) → sp vs H Q E →
      ∃ t, PSs (cxOf CX0 P w K mg base N qual (defScope st) f cdv A outer s H E).nox (defBody st) t ∧ t { nx := fun _ H' => Q .non H', rt := Q } (start N vs) H) : GnOk P w K mg base (k + 1) f fd ps sp := by
  obtain ⟨oc, od, kV, doc, pm, an, cdv, ct, osl, rfl, lk, hcd⟩ := F.ex
  refine ⟨len, fun A outer s H args us vs Q E hg hr e0 hb r hsp => ?_⟩
  have K0 : K.In s.heap := e0.mod.kin.keeps fun b o e => (e0.bs b o e).1
  have L0 : s.heap.NoLimit := e0.mod.nolimit.keeps fun b o e => (e0.bs b o e).1
  have each : ∀ y ∈ ps.zip us, (defScope st).names.lookup y.1 = some .local ∨ ((defScope st).names.lookup y.1 = some .cell ∧ ((cellsFrom (s.heap.objs.size + 1) (defScope st).names []).lookup y.1).isSome = true) := by
    rintro ⟨n, v⟩ hy
    exact (S.par n (List.of_mem_zip hy).1).imp id fun q => ⟨q, PySem.W.cellsFrom_some _ _ _ (.inl q)⟩
  refine codeAny_call_function hr.depth (K0 _ _ lk) rfl S.co S.gen rfl (PySem.W.codeRec_of K0 hcd) (hb _ _ _ _ (wpAny_newFunctionEnv_cells S.kind each fun env he s1 z => ?_))
  subst he
  refine ⟨L0.keeps z.toInCall.keep, codeAny_func ?_⟩
  obtain ⟨t, ht, hq⟩ := walk cdv A outer s H vs Q E hg (hr.deeper _) hsp
  have I : L2.Inv (cxOf CX0 P w K mg base N qual (defScope st) f cdv A outer s H E) [] (start N vs) H s1 := inv_start S hr.hd e0 (len _ _ _ _ hsp) r z
  refine wpAny_mono (ht.nox.run [] s1 (start N vs) H _ I hq) (fun fl s' hs => ?_) fun e s' hs => hs
  rcases fl with _ | _ | _ | u
  · obtain ⟨_, H', J, q⟩ := hs
    exact ⟨V.non, H', J.os, J.bare, J.base, J.hok, rfl, q⟩
  · exact hs.choose_spec.choose_spec.2.elim
  · exact hs.choose_spec.choose_spec.2.elim
  · obtain ⟨v, _, H', J, rv, q⟩ := hs
    exact ⟨v, H', J.os, J.bare, J.base, J.hok, rv, q⟩
end
section
variable {X : Cx} {k : Nat} {f : Addr} {fd : FuncData} {ps : List Str} {sp : Sp} {E : XK} {x : Str} {p pos : Pos} {e : Expr} {es : List Expr} {t : TA}
theorem pe_callG (F : GnOk X.prog X.w X.K X.mg X.base k f fd ps sp) (hgd : X.A.guards = some []) (hr : Room k X.A) (hg : Gl X x) (hm : X.mg x = some (.ref f)) (hk : PySem.W.keepIn X.K (.ref f) = true) (hb : Binds X.K fd ps []) (ha : PA X (e :: es) t)
    (hdb : (x == ("__debug__" : Str)) = false := by decide) (he : starEach (e :: es) X.env = (false, eval e X.env) :: starEach es X.env := by rfl) (hpl : (backTo pos (starEach es X.env)).any (·.1) = false := by rfl) :
    PE X (.Call (.Name x p) (e :: es) [] pos) (tCall sp [] E0 t) := by
  refine ⟨fun pins s σ H Q I h => wpAny_Call_Name_kw (ld_glob I hg hm ?_ hdb)⟩
  refine PySem.W.callWith_K (h₀ := X.base) I.ok.mod.kin hk (thn (ha.run pos pins s σ H _ I h) fun us s1 ⟨vs, H1, I1, r, q⟩ => ⟨I1.kIn, ?_⟩) he hpl
  have q : sp vs H1 Q E0 := by
    have z : sp (vs ++ []) H1 Q E0 := q
    rwa [List.append_nil] at z
  have hl : us.length = ps.length := r.length.symm.trans (F.len _ _ _ _ q)
  have hb' := hb s1 us I1.kIn (by rw [List.append_nil]; exact hl)
  rw [List.append_nil] at hb'
  refine wpAny_call (codeAny_mono (F.run X.A X.stack s1 H1 ⟨us, []⟩ us vs Q E0 hgd hr I1.env0 hb' r q) fun r' s' hq => ?_)
  rcases r' with e' | fl
  · exact hq.elim
  · rcases fl with _ | _ | _ | u
    · exact hq.elim
    · exact hq.elim
    · exact hq.elim
    · exact I1.after hq
/-- repr(v), v data at any depth -/
def rReprD (K : PySem.W.Frag) : List V → Hp → VK → Prop := fun vs H Q => ∃ (v : V) (d : PyData), vs = [v] ∧ Dp K H v d ∧ d.showable = true ∧ d.hasDict = false ∧ d.depth ≤ 64 ∧ d.shown.length ≤ sizeLine ∧ Q (.str d.shown) H
theorem cr_reprD (hgd : X.A.guards = some []) (hu : X.A.units + 66 < cLine) : CallR X (.builtin "repr") (rReprD X.K) := by
  intro pins s σ H vs us Q I r h
  obtain ⟨v, d, rfl, hd, sh, nd, dp, sz, q⟩ := h
  obtain ⟨u, rfl, ru⟩ := vals1 r
  obtain ⟨as, rd⟩ := Dp.reads I d v u hd ru
  cases hd with
  | non => cases ru; exact PySem.P.repr_of_none ⟨.str "None", H, I.tok _, ⟨_, rfl⟩, by simpa [PyData.shown] using q⟩
  | bl b => cases ru; exact PySem.P.repr_of_bool ⟨.str (if b then "True" else "False"), H, I.tok _, ⟨_, rfl⟩, by simpa [PyData.shown] using q⟩
  | int i =>
    obtain ⟨t, rfl⟩ := ru
    exact PySem.P.repr_of_int (by simpa [PyData.showable] using sh) ⟨.str (toString i), H, I.tok _, ⟨_, rfl⟩, by simpa [PyData.shown] using q⟩
  | str x =>
    obtain ⟨t, rfl⟩ := ru
    exact PySem.P.repr_of_str ⟨.str (reprText x), H, I.tok _, ⟨_, rfl⟩, by simpa [PyData.shown] using q⟩ (by simpa [PyData.shown] using sz)
  | lst a b =>
    cases ru
    exact PySem.repr_of_reads' rd sh (fun e => by rw [nd] at e; cases e) hgd (by omega) (fun _ _ e => e) (fun h' u tk k => ⟨.str _, H, I.kept (t' := tk) k, ⟨u, rfl⟩, q⟩) sz
  | tup a b =>
    cases ru
    exact PySem.repr_of_reads' rd sh (fun e => by rw [nd] at e; cases e) hgd (by omega) (fun _ _ e => e) (fun h' u tk k => ⟨.str _, H, I.kept (t' := tk) k, ⟨u, rfl⟩, q⟩) sz
end
/-- the law's own call, its promise with the guards told -/
theorem law_callG {P : Program} {w : World} {K : PySem.W.Frag} {mg mb : Str → Option Value} {k : Nat} {fa a : Addr} {fd : FuncData} {x : Str} {sp : Sp} {s₁ : Shared} {vs : List Value} {ns : List Int}
    (KX : K.In s₁.heap) (hns : s₁.heap.Ns mainGlobals mg) (hb : s₁.heap.Ns builtinsNs mb) (hbb : ∀ x : Str, x ≠ "__name__" → mb x = bootBuiltins x) (hlim : s₁.heap.NoLimit) (hg : s₁.gens = #[])
    (ha : s₁.heap.get? a = some { cls := .type "list", data := .seq vs.toArray }) (hi : IntsAre vs ns) (hl : ns.length ≤ sizeLine) (hr : Room k callerA)
    (F : ∀ base : Heap, K.In base → base.Ns mainGlobals mg → GnOk P w K mg base k fa fd [x] sp) (bind : ∀ (s : Shared) (u : Value), BindsTo s fd ⟨[u], []⟩ [(x, u)])
    (ask : ∀ H : Hp, Only H → SqL K H a (ns.map V.int) → sp [.ref a] H (fun v _ => v = .bl true) E0) :
    codeAny (model P w) callerA (.call (.ref fa) ⟨[.ref a], []⟩) (fun r s' => r = .ok (.ret (.bool true)) ∧ OldK s₁.heap s'.heap ∧ s'.os = s₁.os ∧ AllBare s'.gens) s₁ := by
  have rv := vals_ints hi
  have lenV := hi.length
  have from_ : ∀ H : Hp, Only H → SqL K H a (ns.map V.int) → HOk P w H s₁.heap → (∀ b, H b ≠ none → b = a ∧ K.lookup a = none) →
      codeAny (model P w) callerA (.call (.ref fa) ⟨[.ref a], []⟩) (fun r s' => r = .ok (.ret (.bool true)) ∧ OldK s₁.heap s'.heap ∧ s'.os = s₁.os ∧ AllBare s'.gens) s₁ := by
    intro H only hS hok hA
    have free : ∀ {b : Addr} {o : Obj}, s₁.heap.get? b = some o → (b = a → False) → H b = none := fun {b o} _ n => by
      cases q : H b with
      | none => rfl
      | some u => exact (n (hA b (by rw [q]; simp)).1).elim
    have low : ∀ {b : Addr} {o : Obj}, s₁.heap.get? b = some o → H b = none → (hidT s₁.heap H).get? b = some o := fun e n => hidT_get e n
    have names : ∀ {b : Addr} {m : Str → Option Value}, s₁.heap.Ns b m → (hidT s₁.heap H).Ns b m := fun {b m} ⟨o, es, ep, e, d, r⟩ =>
      ⟨o, es, ep, low e (free e fun z => by subst z; rw [ha] at e; cases e; cases d), d, r⟩
    have hK : K.In (hidT s₁.heap H) := fun b o e => low (KX b o e) (by
      cases q : H b with
      | none => rfl
      | some u =>
        obtain ⟨z, zk⟩ := hA b (by rw [q]; simp)
        subst z
        rw [zk] at e; cases e)
    have M : Mod K mg (hidT s₁.heap H) := ⟨hK, names hns, ⟨mb, names hb, hbb⟩, let ⟨mc, h1, h2⟩ := hlim; ⟨mc, names h1, h2⟩⟩
    have e0 : Env0 P w K mg (hidT s₁.heap H) callerA [] s₁ H := ⟨rfl, M, fun b o e => of_hidT e, Nat.le_of_eq (hidT_size _ _), trivial, fun b z => absurd (show b ∈ ([] : List Addr) from z) (by simp), hok, .of_eq hg⟩
    refine codeAny_mono ((F _ hK (names hns)).run callerA [] s₁ H ⟨[.ref a], []⟩ [.ref a] [.ref a] _ _ rfl hr e0 (bind s₁ (.ref a)) (.cons rfl .nil) (ask H only hS)) fun r s' h => ?_
    rcases r with e | fl
    · exact h.elim
    · rcases fl with _ | _ | _ | u
      · exact h.elim
      · exact h.elim
      · exact h.elim
      · obtain ⟨v, H', os, bare, un, hok', r', q⟩ := h
        obtain rfl : v = .bl true := q
        obtain rfl : u = Value.bool true := r'
        refine ⟨rfl, OldK.of_keep fun b o e => ?_, os, bare⟩
        cases q : H b with
        | none => exact un.keep b o e q (by intro z; exact absurd (show b ∈ ([] : List Addr) from z) (by simp)) (by simp)
        | some u =>
          rcases only b with z | ⟨ob, xs, z⟩
          · rw [q] at z; cases z
          · obtain ⟨e1, _⟩ := hok b _ z
            obtain ⟨e2, _⟩ := hok' b _ (un.frzs b ob _ z)
            rw [e] at e1; cases e1
            exact e2
  cases hk : K.lookup a with
  | some o =>
    have e := KX a o hk
    rw [ha] at e
    cases e
    exact from_ (fun _ => none) (fun _ => .inl rfl) (.inr ⟨_, vs.toArray, _, hk, rfl, rfl, rfl, by rw [List.size_toArray, lenV]; exact hl, by simpa using rv⟩) (fun b u z => nomatch (show (none : Option HO) = some u from z)) fun b z => absurd rfl z
  | none =>
    have at_ : ∀ b, (fun b => if b = a then some (HO.frz { cls := .type "list", data := .seq vs.toArray } (.lst (ns.map V.int))) else none) b ≠ none → b = a := fun b z => by
      by_cases hb : b = a
      · exact hb
      · exact absurd (if_neg hb) z
    refine from_ _ (fun b => ?_) (.inl (.inr ⟨_, if_pos rfl⟩)) (fun b u z => ?_) fun b z => ⟨at_ b z, hk⟩
    · by_cases hb : b = a
      · exact .inr ⟨_, _, if_pos hb⟩
      · exact .inl (if_neg hb)
    · have hb := at_ b (fun e => by have y := z.symm.trans e; cases y)
      subst hb
      have z' := (if_pos rfl).symm.trans z
      cases z'
      exact ⟨ha, by rw [List.length_map]; exact hl, vs, _, rv, ha⟩
theorem walk_ofG {l : PySem.W.OpenLaw} {n k : Nat} {q : Program} {loose : List Str} {XP : (Str → Option Value) → Heap → Prop} {YP : World → Heap → Prop} {d : DefRec} {K : Params → PySem.W.Frag} {sp : PySem.W.Frag → Sp} {x : Str}
    (hn : l.most = some n) (hn2 : n ≤ sizeLine) (hdf : d.params.defaults = []) (hr : Room k callerA) (hY : ∀ (w : World) (h : Heap), YP w h → (K w.params).In h)
    (F : ∀ (w : World) (mg : Str → Option Value) (fa : Addr) (h : Heap), (K w.params).In h → h.Ns mainGlobals mg → mg d.name = some (.ref fa) →
      ∃ fd : FuncData, (∀ (s : Shared) (u : Value), BindsTo s fd ⟨[u], []⟩ [(x, u)]) ∧ ∀ base : Heap, (K w.params).In base → base.Ns mainGlobals mg → GnOk l.prog w (K w.params) mg base k fa fd [x] (sp (K w.params)))
    (ask : ∀ (K : PySem.W.Frag) (H : Hp) (a : Addr) (ns : List Int), ns.length ≤ n → Only H → SqL K H a (ns.map V.int) → sp K [.ref a] H (fun v _ => v = .bl true) E0) :
    PySem.W.WalkO q loose XP YP l.row.toRowW d [] (fun f vs => PySem.call f vs) := by
  refine Att.attach_call hn hdf fun w s₀ s₁ mg mb fa o pm cd doc a vs ns G Y ho hd hcd hmg hobj hints hlen hg => ?_
  obtain ⟨fd, hb, hF⟩ := F w mg fa _ (hY w _ Y) G.T.g hmg
  exact law_callG (hY w _ Y) G.T.g G.T.b G.T.builtins G.T.nolimit hg hobj hints (Nat.le_trans hlen hn2) hr hF hb fun H hO hS => ask _ H a ns hlen hO hS
end Rp

namespace Rp
open PySem L2
def top (i : Nat) : Stmt := PySem.Challenge.pw_ringproofs_k10_atoms_put.main.body.getD i (.Pass ⟨0, 0, 0, 0⟩)
abbrev sParts : Stmt := top 1
abbrev sInside : Stmt := top 2
abbrev sFold : Stmt := top 3
abbrev sVars : Stmt := top 4
abbrev sPut : Stmt := top 5
abbrev sAtomVars : Stmt := top 7
abbrev sAtomPut : Stmt := top 8
abbrev sBox : Stmt := top 10
abbrev sTake : Stmt := top 11
abbrev sPick : Stmt := top 12
abbrev sFolded : Stmt := top 13
abbrev sSame : Stmt := top 14
abbrev sWords : Stmt := top 15
abbrev sVariableL : Stmt := top 16
abbrev sTermL : Stmt := top 17
abbrev sMet : Stmt := top 18
abbrev sExch : Stmt := top 19
abbrev sBindL : Stmt := top 20
abbrev sRight : Stmt := top 21
abbrev sLaw : Stmt := top 22
end Rp

namespace Rp
open PySem L2
/-! ### promises -/
def spBox (K : PySem.W.Frag) : Sp := fun vs H Q _ => ∃ (a : Addr) (ns : List Int) (k : Int), vs = [.ref a, .int k] ∧ SqL K H a (ns.map V.int) ∧ ns.length ≤ 63 ∧ 0 ≤ k ∧ k ≤ 63 ∧
  ∀ (b : Addr) (H' : Hp), H b = none → BoxAt H' b 0 → Same H H' → Q (.ref b) H'
def spTake : Sp := fun vs H Q _ => ∃ (b : Addr) (c : Int) (j : Nat), vs = [.ref b, .int c] ∧ BoxAt H b j ∧ j ≤ 1000000 ∧ 1 ≤ c ∧ c ≤ 1000000 ∧
  ∀ (r : Int) (H' : Hp), 0 ≤ r → r < c → BoxAt H' b (j + 1) → But b H H' → Q (.int r) H'
def spPick : Sp := fun vs H Q _ => ∃ (b p : Addr) (xs : List V) (j : Nat), vs = [.ref b, .ref p] ∧ BoxAt H b j ∧ j ≤ 1000000 ∧ H p = some (.lst xs) ∧ p ≠ b ∧ 1 ≤ xs.length ∧ xs.length ≤ 1000000 ∧
  ∀ (v : V) (H' : Hp), v ∈ xs → BoxAt H' b (j + 1) → But b H H' → Q v H'
section
variable {P : Program} {w : World} {K : PySem.W.Frag} {mg : Str → Option Value} {base : Heap}
theorem fmod_pos {a c : Int} (h : 0 < c) : 0 ≤ a.fmod c ∧ a.fmod c < c := by
  rw [Int.fmod_eq_emod_of_nonneg a (Int.le_of_lt h)]
  exact ⟨Int.emod_nonneg a (by omega), Int.emod_lt_of_pos a h⟩
theorem fdiv_pos {a c : Int} (h : 0 < c) (ha : 0 ≤ a) : 0 ≤ a.fdiv c := by
  rw [Int.fdiv_eq_ediv_of_nonneg a (Int.le_of_lt h)]
  exact Int.ediv_nonneg ha (Int.le_of_lt h)
theorem scBox : FnScope ["_law_script", "_law_k", "_law_cell"] ["_law_script", "_law_k"] (defScope sBox) := ⟨rfl, rfl, rfl, by decide +kernel, rfl, by decide +kernel, by decide +kernel⟩
theorem ok_box {f : Addr} {fd : FuncData} (F : Fun K "_law_box" "_law_box" sBox f fd) (mLen : mg "len" = none) (mAbs : mg "abs" = none) (mInt : mg "int" = none) :
    FnOk P w K mg base CX0 1 f fd ["_law_script", "_law_k"] (spBox K) := by
  refine F.ok scBox (fun vs H Q E h => ?_) (fun cdv A outer s H vs Q E hr h => ?_)
  · obtain ⟨a, ns, k, rfl, _⟩ := h
    rfl
  obtain ⟨a, ns, k, rfl, hS, hl, h0, h1, q⟩ := h
  refine ⟨_, pss_cons (ps_set (i := 2) scBox.nd rfl (Or.inl rfl) pe_int)
    (pss_cons (ps_if (pt_cmpR op_lt (pv 1) (pe_callB call_len_seq (by rfl) mLen PySem.boot_len (pa_cons (pv 0) pa_nil)) (nomark _))
      (pss_one (ps_set (i := 2) scBox.nd rfl (Or.inl rfl) (pe_ix ix_list (pv 0) (pv 1) (fun _ _ => rfl)))) pss_nil)
    (pss_one (ps_ret (pe_lst (pa_cons
      (pe_op op_mul (pe_callB call_abs (by rfl) mAbs (by decide +kernel) (pa_cons (pv 2) pa_nil))
        (pe_callTy call_int1 (by rfl) mInt (by decide +kernel) (pa_cons (pe_cmpR op_ge (pe_callB call_abs (by rfl) mAbs (by decide +kernel) (pa_cons (pv 2) pa_nil)) (pe_op op_pow pe_int pe_int) (nomark _)) pa_nil)))
      (pa_cons (pe_op op_add (pe_op op_add (pe_op op_modN (pv 2) pe_int) (pe_op op_mul pe_int (pv 1))) pe_int) (pa_cons pe_int pa_nil))))))), ?_⟩
  refine ⟨_, rfl, _, rfl, a, _, rfl, .inl hS, _, _, rfl, rfl, _, rfl, ?_⟩
  have two : ∀ (b : Bool), -(2 ^ 64) < (if b = true then (1 : Int) else 0) ∧ (if b = true then (1 : Int) else 0) < 2 ^ 64 ∧ 0 ≤ (if b = true then (1 : Int) else 0) := by decide
  have pos : ∀ c : Int, 0 ≤ if c < 0 then -c else c := fun c => by split <;> omega
  have m := fun c : Int => fmod_pos (a := c) (c := 2147483629) (by decide)
  refine ite2 (fun c => ?_) (fun c => ?_)
  · have hk : k.toNat < ns.length := by
      have z : k < (((ns.map V.int).length : Nat) : Int) := of_decide_eq_true c
      rw [List.length_map] at z
      omega
    have it : atI (ns.map V.int) k = some (.int ns[k.toNat]) := at_of (j := k.toNat) (by omega) (by rw [List.getElem?_map, List.getElem?_eq_getElem hk]; rfl)
    refine ⟨_, rfl, _, rfl, a, _, _, _, rfl, rfl, hS, it, ?_⟩
    refine ⟨_, rfl, _, rfl, _, rfl, _, rfl, _, _, rfl, rfl, ⟨by decide, by decide, by decide⟩, _, _, rfl, rfl, .inr ⟨_, rfl, ?_⟩⟩
    refine ⟨_, _, rfl, rfl, .inr ⟨(two _).1, (two _).2.1⟩, _, rfl, _, _, rfl, rfl, (fun h => absurd h (by decide)), _, rfl, _, _, rfl, rfl, .inl ⟨by decide, by decide⟩, _, _, rfl, rfl, _, _, rfl, rfl, (by show 3 ≤ sizeLine; decide), fun b hb => ?_⟩
    have mm := m ns[k.toNat]
    exact q b _ hb ⟨_, _, _, upd_same, Int.mul_nonneg (pos _) (two _).2.2, by omega, by omega, by decide, by decide⟩ (same_new hb _)
  · refine ⟨_, rfl, _, rfl, _, rfl, _, rfl, _, _, rfl, rfl, ⟨by decide, by decide, by decide⟩, _, _, rfl, rfl, .inr ⟨_, rfl, ?_⟩⟩
    refine ⟨_, _, rfl, rfl, .inr ⟨(two _).1, (two _).2.1⟩, _, rfl, _, _, rfl, rfl, (fun h => absurd h (by decide)), _, rfl, _, _, rfl, rfl, .inl ⟨by decide, by decide⟩, _, _, rfl, rfl, _, _, rfl, rfl, (by show 3 ≤ sizeLine; decide), fun b hb => ?_⟩
    have mm := m 0
    exact q b _ hb ⟨_, _, _, upd_same, Int.mul_nonneg (pos _) (two _).2.2, by omega, by omega, by decide, by decide⟩ (same_new hb _)
theorem scTake : FnScope ["_law_box_here", "_law_top", "_law_found", "_law_once"] ["_law_box_here", "_law_top"] (defScope sTake) := ⟨rfl, rfl, rfl, by decide +kernel, rfl, by decide +kernel, by decide +kernel⟩
theorem ok_take {f : Addr} {fd : FuncData} (F : Fun K "_law_take" "_law_take" sTake f fd) : FnOk P w K mg base CX0 1 f fd ["_law_box_here", "_law_top"] spTake := by
  refine F.ok scTake (fun vs H Q E h => ?_) (fun cdv A outer s H vs Q E hr h => ?_)
  · obtain ⟨b, c, j, rfl, _⟩ := h
    rfl
  obtain ⟨b, c, j, rfl, B, hj, h1, h2, q⟩ := h
  obtain ⟨x, y, z, hb, x0, y0, y1, z0, z1⟩ := id B
  have s0 : SqL K H b [.int x, .int y, .int z] := .inl (.inl hb)
  have a0 : ∀ u v t : Int, atI [V.int u, .int v, .int t] 0 = some (.int u) := fun u v t => at_of (j := 0) rfl rfl
  have a1 : ∀ u v t : Int, atI [V.int u, .int v, .int t] 1 = some (.int v) := fun u v t => at_of (j := 1) rfl rfl
  have a2 : ∀ u v t : Int, atI [V.int u, .int v, .int t] 2 = some (.int t) := fun u v t => at_of (j := 2) rfl rfl
  refine ⟨_, pss_cons (ps_if (pt_cmpR op_gt (pe_ix ix_list (pv 0) pe_int (fun _ _ => rfl)) pe_int (nomark _))
      (pss_cons (ps_set (i := 2) scTake.nd rfl (Or.inl rfl) (pe_op op_modN (pe_ix ix_list (pv 0) pe_int (fun _ _ => rfl)) (pv 1)))
      (pss_cons (ps_asg (pe_op op_fdivN (pe_ix ix_list (pv 0) pe_int (fun _ _ => rfl)) (pv 1)) (pg_sub (pv 0) pe_int set_list))
      (pss_one (ps_ret (pv 2))))) pss_nil)
    (pss_cons (ps_asg (pe_op op_add (pe_ix ix_list (pv 0) pe_int (fun _ _ => rfl)) pe_int) (pg_sub (pv 0) pe_int set_list))
    (pss_cons (ps_set (i := 3) scTake.nd rfl (Or.inl rfl) (pe_op op_modN (pe_op op_pow (pe_op op_add (pe_ix ix_list (pv 0) pe_int (fun _ _ => rfl)) (pe_op op_mul pe_int (pe_ix ix_list (pv 0) pe_int (fun _ _ => rfl)))) pe_int) pe_int))
    (pss_one (ps_ret (pe_op op_modN (pe_op op_fdivN (pe_op op_modN (pe_op op_add (pe_op op_mul (pv 3) (pe_op op_add (pe_op op_modN (pv 3) pe_int) pe_int)) (pe_op op_mul (pe_ix ix_list (pv 0) pe_int (fun _ _ => rfl)) pe_int)) pe_int) pe_int) (pv 1)))))), ?_⟩
  refine ⟨_, rfl, b, _, _, _, rfl, rfl, s0, a0 _ _ _, _, _, rfl, rfl, _, rfl, ?_⟩
  refine ite2 (fun d => ?_) (fun d => ?_)
  · refine ⟨_, rfl, b, _, _, _, rfl, rfl, s0, a0 _ _ _, _, rfl, _, _, rfl, rfl, (by omega), ?_⟩
    refine ⟨_, rfl, b, _, _, _, rfl, rfl, s0, a0 _ _ _, _, rfl, _, _, rfl, rfl, ⟨by omega, by omega⟩, ?_⟩
    refine ⟨_, rfl, b, _, _, 0, rfl, rfl, hb, rfl, ?_⟩
    have m := fmod_pos (a := x) (c := c) (by omega)
    exact ⟨_, rfl, q _ _ m.1 m.2 ⟨_, _, _, upd_same, fdiv_pos (by omega) x0, y0, y1, z0, by omega⟩ (but_upd _)⟩
  · refine ⟨_, rfl, b, _, _, _, rfl, rfl, s0, a2 _ _ _, _, _, rfl, rfl, ?_⟩
    refine ⟨_, rfl, b, _, _, 2, rfl, rfl, hb, rfl, ?_⟩
    have hb' : (upd H b (.lst [.int x, .int y, .int (z + 1)])) b = some (.lst [.int x, .int y, .int (z + 1)]) := upd_same
    have s1 : SqL K (upd H b (.lst [.int x, .int y, .int (z + 1)])) b [.int x, .int y, .int (z + 1)] := .inl (.inl hb')
    refine ⟨_, rfl, b, _, _, _, rfl, rfl, s1, a1 _ _ _, _, rfl, b, _, _, _, rfl, rfl, s1, a2 _ _ _, _, _, rfl, rfl, .inl ⟨by decide, by decide⟩, _, _, rfl, rfl, _, _, rfl, rfl, ⟨by decide, by decide, by omega⟩, _, _, rfl, rfl, (fun h => absurd h (by decide)), ?_⟩
    generalize (y + 39373 * (z + 1)) ^ Int.toNat 5 = g
    have m := fmod_pos (a := g) (c := 2147483647) (by decide)
    refine ⟨_, rfl, _, rfl, _, _, rfl, rfl, (fun h => absurd h (by decide)), _, _, rfl, rfl, _, _, rfl, rfl, .inl ⟨by omega, by omega⟩, _, rfl, b, _, _, _, rfl, rfl, s1, a2 _ _ _, _, _, rfl, rfl, .inl ⟨by omega, by omega⟩, _, _, rfl, rfl, _, _, rfl, rfl, (fun h => absurd h (by decide)), _, _, rfl, rfl, ⟨by decide, by decide⟩, _, rfl, _, _, rfl, rfl, (by omega), ?_⟩
    generalize Int.fdiv _ _ = e
    have m2 := fmod_pos (a := e) (c := c) (by omega)
    exact q _ _ m2.1 m2.2 ⟨_, _, _, upd_same, x0, y0, y1, by omega, by omega⟩ (but_upd _)
theorem scPick : FnScope ["_law_box_here", "_law_things"] ["_law_box_here", "_law_things"] (defScope sPick) := ⟨rfl, rfl, rfl, by decide +kernel, rfl, by decide +kernel, by decide +kernel⟩
theorem ok_pick {f fT : Addr} {fd fdT : FuncData} (F : Fun K "_law_pick" "_law_pick" sPick f fd) (FT : Fun K "_law_take" "_law_take" sTake fT fdT) (bT : Binds K fdT ["_law_box_here", "_law_top"] []) (mT : mg "_law_take" = some (.ref fT)) (mLen : mg "len" = none) :
    FnOk P w K mg base CX0 2 f fd ["_law_box_here", "_law_things"] spPick := by
  have GT : FnOk P w K mg base CX0 1 fT fdT ["_law_box_here", "_law_top"] spTake := ok_take FT
  refine F.ok scPick (fun vs H Q E h => ?_) (fun cdv A outer s H vs Q E hr h => ?_)
  · obtain ⟨b, p, xs, j, rfl, _⟩ := h
    rfl
  obtain ⟨b, p, xs, j, rfl, B, hj, hp, ne, l1, l2, q⟩ := h
  refine ⟨_, pss_one (ps_ret (pe_ix ix_list (pv 1) (pe_call GT hr rfl mT FT.kp bT .nil pass0 (pa_cons (pv 0) (pa_cons (pe_callB call_len_seq (by rfl) mLen PySem.boot_len (pa_cons (pv 1) pa_nil)) pa_nil))) (fun _ _ => rfl))), ?_⟩
  refine ⟨_, rfl, _, rfl, _, rfl, p, _, rfl, .inl (.inl (.inl hp)), b, _, j, rfl, B, hj, by omega, by omega, fun r H' r0 r1 B' o => ?_⟩
  have hr' : r.toNat < xs.length := by omega
  refine ⟨p, _, _, _, rfl, rfl, .inl (.inl (o _ _ hp ne)), at_of (j := r.toNat) (v := xs[r.toNat]) (by omega) (List.getElem?_eq_getElem hr'), ?_⟩
  exact q _ _ (List.getElem_mem hr') B' o
end
end Rp

namespace Rp
open PySem L2
section
variable {P : Program} {w : World} {K : PySem.W.Frag} {mg : Str → Option Value} {base : Heap}
theorem none_left {k : Nat} {f : Addr} {fd : FuncData} {ps : List Str} {sp : Sp} (no : ∀ vs H Q E, ¬ sp vs H Q E) : FnOk P w K mg base CX0 k f fd ps sp :=
  ⟨fun vs H Q E h => absurd h (no vs H Q E), fun A outer s H args us vs Q E _ _ _ _ h => absurd h (no vs H Q E)⟩
theorem v1_ne {x y : Int} (c : ¬ decide (V.int x = V.int y) = true) : x ≠ y := fun e => c (by rw [e]; simp)
theorem v1_eq {x y : Int} (c : decide (V.int x = V.int y) = true) : x = y := V.int.inj (of_decide_eq_true c)
theorem big1000 : (1000 : Nat) ≤ sizeLine := by decide
end
end Rp

namespace Rp
open PySem L2
/-- the value of a TERM is an int or a tuple that stands -/
theorem TmAt.ty {K : PySem.W.Frag} {H : Hp} {v : V} {t : Tm} (h : TmAt H v t) : (∃ n, v = .int n ∧ t = .v n) ∨ (∃ a xs, v = .ref a ∧ H a = some (.tup xs) ∧ TyX K H v (.type "tuple") ∧ (∀ n, t ≠ .v n)) := by
  cases h with
  | v n => exact .inl ⟨n, rfl, rfl⟩
  | z h => exact .inr ⟨_, _, rfl, h, .base (.tup h), fun n e => by cases e⟩
  | s h _ => exact .inr ⟨_, _, rfl, h, .base (.tup h), fun n e => by cases e⟩
  | f h _ _ => exact .inr ⟨_, _, rfl, h, .base (.tup h), fun n e => by cases e⟩
def signHead : Tm → Str
  | .v _ => "" | .z => "0" | .s _ => "s" | .f _ _ => "f"
/-- a TERM that is no variable: its tuple, its parts -/
theorem TmAt.tupled {H : Hp} {v : V} {t : Tm} (h : TmAt H v t) (no : ∀ n, t ≠ .v n) : ∃ a ks, v = .ref a ∧ H a = some (.tup (.str (signHead t) :: ks)) ∧ ks.length = t.kids.length ∧ ∀ (i : Nat) (x : V) (k : Tm), ks[i]? = some x → t.kids[i]? = some k → TmAt H x k := by
  cases h with
  | v n => exact absurd rfl (no n)
  | z h => exact ⟨_, [], rfl, h, rfl, fun i x k h => by simp at h⟩
  | @s a x t h q =>
    refine ⟨_, [x], rfl, h, rfl, fun i y k h1 h2 => ?_⟩
    cases i with
    | zero => simp [Tm.kids] at h1 h2; subst h1 h2; exact q
    | succ i => simp at h1
  | @f a x y l r h q q' =>
    refine ⟨_, [x, y], rfl, h, rfl, fun i u k h1 h2 => ?_⟩
    match i with
    | 0 => simp [Tm.kids] at h1 h2; subst h1 h2; exact q
    | 1 => simp [Tm.kids] at h1 h2; subst h1 h2; exact q'
    | i + 2 => simp at h1
theorem signs_kids : ∀ {t : Tm}, (∀ n, t ≠ .v n) → t.signs = .str (signHead t) :: t.kids.flatMap Tm.signs
  | .v n, h => absurd rfl (h n)
  | .z, _ => rfl
  | .s t, _ => by simp [Tm.signs, Tm.kids, signHead]
  | .f l r, _ => by simp [Tm.signs, Tm.kids, signHead]
theorem kid_deep {t k : Tm} (h : k ∈ t.kids) : k.deep < t.deep := by
  cases t with
  | v n => simp [Tm.kids] at h
  | z => simp [Tm.kids] at h
  | s t => simp [Tm.kids] at h; subst h; exact Nat.lt_succ_self _
  | f l r =>
    simp [Tm.kids] at h
    rcases h with h | h <;> subst h <;> (simp only [Tm.deep]; omega)
theorem kid_size {t k : Tm} (h : k ∈ t.kids) : k.size < t.size := by
  cases t with
  | v n => simp [Tm.kids] at h
  | z => simp [Tm.kids] at h
  | s t => simp [Tm.kids] at h; subst h; exact Nat.lt_succ_self _
  | f l r =>
    simp [Tm.kids] at h
    rcases h with h | h <;> subst h <;> (simp only [Tm.size]; omega)
theorem take_flat {t : Tm} (i : Nat) : ((t.kids.take i).flatMap Tm.signs).length ≤ t.size := by
  cases t with
  | v n => simp [Tm.kids]
  | z => simp [Tm.kids]
  | s t =>
    match i with
    | 0 => simp
    | i + 1 => simp [Tm.kids, Tm.signs_len, Tm.size]
  | f l r =>
    match i with
    | 0 => simp
    | 1 => simp [Tm.kids, Tm.signs_len, Tm.size]; try omega
    | i + 2 => simp [Tm.kids, Tm.signs_len, Tm.size]; try omega
theorem cut_tail (x : V) (ks : List V) : cutV (x :: ks) (some 1) none = ks := by
  have e : HT.sIx (x :: ks).length 0 (some 1) = 1 := by
    have := HT.sIx_nat (x :: ks).length 0 1
    rw [List.length_cons] at this ⊢
    rw [show (some 1 : Option Int) = some ((1 : Nat) : Int) from rfl, this]
    omega
  unfold cutV
  rw [e, HT.sIx_none, List.drop_one, List.tail_cons, List.take_of_length_le (by simp)]
theorem cut_part (x : V) (ks : List V) : ¬ (HT.sIx (x :: ks).length 0 (some 1) = 0 ∧ HT.sIx (x :: ks).length (x :: ks).length none = (x :: ks).length) := by
  have := HT.sIx_nat (x :: ks).length 0 1
  rw [List.length_cons] at this ⊢
  rw [show (some 1 : Option Int) = some ((1 : Nat) : Int) from rfl, this]
  omega
section
variable {P : Program} {w : World} {K : PySem.W.Frag} {mg : Str → Option Value} {base : Heap}
theorem kit_ii : PySem.W.kitOne K (.type "int") (.type "int") = some true := kit_ty (by decide +kernel)
theorem kit_ti : PySem.W.kitOne K (.type "tuple") (.type "int") = some false := kit_ty (by decide +kernel)
theorem kit_si : PySem.W.kitOne K (.type "str") (.type "int") = some false := kit_ty (by decide +kernel)
end
end Rp

namespace Rp
open PySem PySem.Spec PyProof.Rows L2
/-- list.extend by any tuple object -/
theorem extend_by (l : Addr) (xs : Array Value) (n : Nat) (b : Addr) (od : Option Addr) (ys : Array Value) (m : Nat) (sl : Array (Option Value)) (short : ¬(!xs.isEmpty && Builtin.List.listTooLong (xs.size + ys.size)) = true) (h1 : xs.size ≤ sizeLine) (h2 : xs.size + ys.size ≤ sizeLine + 1) :
    Meets (Builtin.«list.extend» ⟨[.ref l, .ref b], []⟩) (fun _ R s => s.heap.get? l = some { cls := .type "list", data := .seq xs n } ∧ s.heap.get? b = some ⟨.type "tuple", od, .seq ys m, sl⟩ ∧
      R (.ok (.ret Value.none)) { s with heap := s.heap.update l (Obj.mapSeq fun x => x ++ ys) }) :=
  .of_wp fun prog w A R s ⟨hl, hb, h⟩ => by
    obtain ⟨hp, g, d, tk, os⟩ := s
    have g1 := sub_list_list
    have g2 := sub_tuple_list
    have g3 := sub_tuple_tuple
    have g4 := sub_list_tuple
    have both : (xs ++ ys).size ≤ sizeLine + 1 := by rw [Array.size_append]; exact h2
    wp_walk using (wpAny_updateSeq hl rfl (hz := h1) (_hz' := both)), wpAny_loadPart' hl, wpAny_loadPart' hb
    exact ⟨_, rfl, h⟩
section
variable {X : Cx}
/-- xs.extend(t), t a tuple -/
def rExtT (K : PySem.W.Frag) : V → List V → Hp → VK → Prop := fun x vs H Q => ∃ (l b : Addr) (xs zs : List V), x = .ref l ∧ vs = [.ref b] ∧ H l = some (.lst xs) ∧ SqT K H b zs ∧ xs.length + zs.length ≤ sizeLine ∧ Q .non (upd H l (.lst (xs ++ zs)))
theorem mt_extendT : MtM X "list.extend" (rExtT X.K) := by
  intro pins s σ H x vs v us Q I rx rv h
  obtain ⟨l, b, xs, zs, rfl, rfl, hH, hB, few, q⟩ := h
  cases rx
  obtain ⟨u, rfl, ru⟩ := rv.one
  cases ru
  obtain ⟨z, its, n, r, hl, e⟩ := I.lstM hH
  obtain ⟨its2, r2, ⟨⟨c2, d2, dat2, sl2⟩, e2, hc2, n2, hd2⟩, hz2⟩ := I.tuple hB
  simp only at hc2 hd2
  subst hc2 hd2
  have l1 := r.length
  have l2 := r2.length
  have room : its.toArray.size + its2.toArray.size ≤ sizeLine := by rw [List.size_toArray, List.size_toArray]; omega
  have short : ¬ (!its.toArray.isEmpty && Builtin.List.listTooLong (its.toArray.size + its2.toArray.size)) = true := by
    rw [notLongL room, Bool.and_false]; exact Bool.false_ne_true
  refine call_meets PySem.F.slot_list_extend ⟨_, e, rfl⟩ PySem.F.entry_list_extend (PySem.F.args_list_extend_2 _ _) (extend_by l its.toArray n b d2 its2.toArray n2 sl2 short (by rw [List.size_toArray]; omega) (by omega)) ⟨e, e2, ?_⟩
  refine ⟨.non, _, I.lset (its' := its ++ its2) (t' := s.toks) hH e (by simp) (r.append r2) ?_, rfl, q⟩
  rw [List.length_append]; omega
end
end Rp

namespace Rp
open PySem L2
/-- values and TERMs side by side -/
def AllAt (H : Hp) : List V → List Tm → Prop
  | [], [] => True
  | x :: xs, t :: ts => TmAt H x t ∧ AllAt H xs ts
  | _, _ => False
theorem AllAt.len {H : Hp} : ∀ {xs : List V} {ts : List Tm}, AllAt H xs ts → xs.length = ts.length
  | [], [], _ => rfl
  | x :: xs, t :: ts, h => congrArg (· + 1) (AllAt.len h.2)
theorem AllAt.append {H : Hp} : ∀ {xs ys : List V} {ts us : List Tm}, AllAt H xs ts → AllAt H ys us → AllAt H (xs ++ ys) (ts ++ us)
  | [], _, [], _, _, h => h
  | x :: xs, _, t :: ts, _, h, h' => ⟨h.1, AllAt.append h.2 h'⟩
theorem AllAt.parted {H : Hp} : ∀ {xs ys : List V} {ts : List Tm}, AllAt H (xs ++ ys) ts → ∃ t1 t2, ts = t1 ++ t2 ∧ AllAt H xs t1 ∧ AllAt H ys t2
  | [], _, ts, h => ⟨[], ts, rfl, trivial, h⟩
  | x :: xs, ys, t :: ts, h => by
    obtain ⟨t1, t2, e, h1, h2⟩ := AllAt.parted (xs := xs) h.2
    exact ⟨t :: t1, t2, by rw [e]; rfl, ⟨h.1, h1⟩, h2⟩
theorem AllAt.mono {H H' : Hp} (e : ∀ a xs, H a = some (.tup xs) → H' a = some (.tup xs)) : ∀ {xs : List V} {ts : List Tm}, AllAt H xs ts → AllAt H' xs ts
  | [], [], _ => trivial
  | x :: xs, t :: ts, h => ⟨h.1.mono e, AllAt.mono e h.2⟩
theorem AllAt.back {H : Hp} : ∀ {xs : List V} {ts : List Tm}, AllAt H xs ts → AllAt H xs.reverse ts.reverse
  | [], [], _ => trivial
  | x :: xs, t :: ts, h => by
    rw [List.reverse_cons, List.reverse_cons]
    exact (AllAt.back h.2).append ⟨h.1, trivial⟩
theorem AllAt.get {H : Hp} : ∀ {xs : List V} {ts : List Tm} {i : Nat} {x : V}, AllAt H xs ts → xs[i]? = some x → ∃ t, ts[i]? = some t ∧ TmAt H x t
  | x :: xs, t :: ts, 0, y, h, e => by simp at e; subst e; exact ⟨t, rfl, h.1⟩
  | x :: xs, t :: ts, i + 1, y, h, e => by simpa using AllAt.get h.2 (by simpa using e)
theorem AllAt.of {H : Hp} : ∀ {xs : List V} {ts : List Tm}, xs.length = ts.length → (∀ (i : Nat) (x : V) (k : Tm), xs[i]? = some x → ts[i]? = some k → TmAt H x k) → AllAt H xs ts
  | [], [], _, _ => trivial
  | x :: xs, t :: ts, l, h => ⟨h 0 x t rfl rfl, AllAt.of (by simpa using l) fun i y k a b => h (i + 1) y k (by simpa using a) (by simpa using b)⟩
def spParts : Sp := fun vs H Q _ => ∃ (v : V) (t : Tm), vs = [v] ∧ TmAt H v t ∧ ∀ (p : Addr) (ks : List V) (H' : Hp), H p = none → H' p = some (.tup ks) → AllAt H' ks t.kids → Same H H' → Q (.ref p) H'
def spInside : Sp := fun vs H Q _ => ∃ (v : V) (t : Tm), vs = [v] ∧ TmAt H v t ∧ t.size ≤ 1000 ∧ ∀ (p : Addr) (xs : List V) (H' : Hp), H p = none → H' p = some (.lst xs) → AllAt H' xs t.rpost.reverse → Same H H' → Q (.ref p) H'
def spSize : Sp := fun vs H Q _ => ∃ (v : V) (t : Tm), vs = [v] ∧ TmAt H v t ∧ t.size ≤ 1000 ∧ ∀ H', Same H H' → Q (.int (t.size : Nat)) H'
def spVars : Sp := fun vs H Q _ => ∃ (v : V) (t : Tm), vs = [v] ∧ TmAt H v t ∧ t.size ≤ 60 ∧ ∀ (p : Addr) (ns : List Int) (H' : Hp), H p = none → H' p = some (.lst (ns.map V.int)) → ns.Pairwise (· < ·) → (∀ k, k ∈ ns ↔ k ∈ t.nums) → Same H H' → Q (.ref p) H'
section
variable {P : Program} {w : World} {K : PySem.W.Frag} {mg : Str → Option Value} {base : Heap}
theorem scParts : FnScope ["term"] ["term"] (defScope sParts) := ⟨rfl, rfl, rfl, by decide +kernel, rfl, by decide +kernel, by decide +kernel⟩
theorem ok_parts {f : Addr} {fd : FuncData} (F : Fun K "_parts" "_parts" sParts f fd) (mIsi : mg "isinstance" = none) (mInt : mg "int" = none) : FnOk P w K mg base CX0 1 f fd ["term"] spParts := by
  refine F.ok scParts (fun vs H Q E h => ?_) (fun cdv A outer s H vs Q E hr h => ?_)
  · obtain ⟨v, t, rfl, _⟩ := h
    rfl
  obtain ⟨v, t, rfl, T, q⟩ := h
  refine ⟨_, pss_one (ps_ret (pe_ifExp (pt_val (pe_callB call_isi (by rfl) mIsi (by decide +kernel) (pa_cons (pv 0) (pa_cons (pe_bltn (v := .ty "int") (by rfl) mInt (by decide +kernel) rfl) pa_nil)))) (pe_tup pa_nil) (pe_slice sl_tup (pv 0) (po_some pe_int) po_none))), ?_⟩
  rcases T.ty (K := K) with ⟨m, rfl, rfl⟩ | ⟨a, xs, rfl, ha, ty, no⟩
  · refine ⟨_, rfl, _, _, _, _, true, rfl, .ty "int", .base (.int m), kit_ii, true, rfl, iteT ?_⟩
    exact ⟨(by show 0 ≤ sizeLine; decide), fun p hp => q p [] _ hp upd_same trivial (same_new hp _)⟩
  · obtain ⟨a', ks, e, ha', hk, hks⟩ := T.tupled no
    cases e
    refine ⟨_, rfl, _, _, _, _, false, rfl, .ty "int", ty, kit_ti, false, rfl, iteF ?_⟩
    refine ⟨_, rfl, 1, rfl, a, _, rfl, .inl (.inl ha'), cut_part _ _, fun p hp => ?_⟩
    rw [cut_tail]
    have s1 := same_new hp (.tup ks)
    exact q p ks _ hp upd_same (AllAt.of hk fun i x k a b => (hks i x k a b).same s1) s1
theorem scInside : FnScope ["term", "found", "todo", "part"] ["term"] (defScope sInside) := ⟨rfl, rfl, rfl, by decide +kernel, rfl, by decide +kernel, by decide +kernel⟩
/-- how many parts are still to come -/
def leftOf (n : Nat) (σ : List (Option V)) (H : Hp) : Nat := match σ with
  | _ :: some (V.ref p) :: _ => (match H p with
    | some (HO.lst xs) => n - xs.length
    | _ => 0)
  | _ => 0
theorem leftOf_is {n : Nat} {v : Option V} {p : Addr} {r : List (Option V)} {H : Hp} {xs : List V} (h : H p = some (.lst xs)) : leftOf n (v :: some (.ref p) :: r) H = n - xs.length := by
  unfold leftOf
  simp [h]
theorem ok_inside {f fP : Addr} {fd fdP : FuncData} (F : Fun K "inside_out" "inside_out" sInside f fd) (FP : Fun K "_parts" "_parts" sParts fP fdP) (bP : Binds K fdP ["term"] []) (mP : mg "_parts" = some (.ref fP)) (mIsi : mg "isinstance" = none) (mInt : mg "int" = none) :
    FnOk P w K mg base CX0 2 f fd ["term"] spInside := by
  have GP : FnOk P w K mg base CX0 1 fP fdP ["term"] spParts := ok_parts FP mIsi mInt
  refine F.ok scInside (fun vs H Q E h => ?_) (fun cdv A outer s H vs Q E hr h => ?_)
  · obtain ⟨v, t, rfl, _⟩ := h
    rfl
  obtain ⟨v, t, rfl, T, hz, q⟩ := h
  refine ⟨_, pss_cons (ps_set (i := 1) scInside.nd rfl (Or.inl rfl) (pe_lst pa_nil))
    (pss_cons (ps_set (i := 2) scInside.nd rfl (Or.inl rfl) (pe_lst (pa_cons (pv 0) pa_nil)))
    (pss_cons (ps_while PassesOwn.never (pt_truth (pv 2) (by intro _; rfl))
      (pss_cons (ps_set (i := 3) scInside.nd rfl (Or.inl rfl) (pe_bm0 PySem.F.plainAttrs_list PySem.F.slot_list_pop PySem.F.type_list_pop mt_pop (pv 2)))
      (pss_cons (ps_expr (pe_bm PySem.F.plainAttrs_list PySem.F.slot_list_append PySem.F.type_list_append mt_append (pv 1) (pa_cons (pv 3) pa_nil)))
      (pss_one (ps_expr (pe_bm PySem.F.plainAttrs_list PySem.F.slot_list_extend PySem.F.type_list_extend mt_extendT (pv 2) (pa_cons (pe_call GP hr rfl mP FP.kp bP .nil pass0 (pa_cons (pv 3) pa_nil)) pa_nil)))))))
    (pss_one (ps_ret (pe_revL (pv 1)))))), ?_⟩
  refine ⟨(by show 0 ≤ sizeLine; decide), fun p hp => ?_⟩
  refine ⟨_, rfl, (by show 1 ≤ sizeLine; decide), fun d hd => ?_⟩
  have s1 := same_new hp (.lst [])
  have s2 := same_new hd (.lst [v])
  have s12 : Same H _ := s1.trans s2
  have pd : p ≠ d := ne_of_none upd_same hd
  dsimp only [gName, tSeq]
  refine while_by (fun σ H2 => ∃ (fxs txs : List V) (fs ts : List Tm) (x : Option V), σ = [some v, some (.ref p), some (.ref d), x] ∧ H2 p = some (.lst fxs) ∧ H2 d = some (.lst txs) ∧ AllAt H2 fxs fs ∧ AllAt H2 txs ts ∧ fs ++ ts.reverse.flatMap Tm.rpost = t.rpost ∧ Same H H2)
    (leftOf t.size) ⟨[], [v], [], [t], none, rfl, s2 _ _ upd_same, upd_same, trivial, ⟨T.same s12, trivial⟩, by simp, s12⟩ ?_ (fun σ H Q Q' m ⟨v, hv, k, hk, q⟩ => ⟨v, hv, k, hk, m _ _ q⟩)
  rintro σ H2 ⟨fxs, txs, fs, ts, x, rfl, h1, h2, A1, A2, eq, sH⟩
  refine ⟨_, rfl, !txs.isEmpty, .inl ⟨txs, .inl (.inl h2), rfl⟩, ?_⟩
  have tot := congrArg List.length eq
  rw [List.length_append, Tm.rpost_len, ← A1.len] at tot
  rcases List.eq_nil_or_concat txs with e | ⟨M, y, e⟩
  · subst e
    refine iteF ?_
    have e2 : ts = [] := by have := A2.len; cases ts with | nil => rfl | cons => simp at this
    subst e2
    have e3 : fs = t.rpost := by simpa using eq
    subst e3
    refine ⟨_, rfl, p, _, rfl, .inl (.inl h1), fun r hr2 => ?_⟩
    have s3 := same_new hr2 (.lst fxs.reverse)
    refine q r _ _ (sH.free hr2) upd_same (A1.back.mono fun a xs z => s3 _ _ z) (sH.trans s3)
  · rw [List.concat_eq_append] at e
    subst e
    have ne : (!(M ++ [y]).isEmpty) = true := by simp
    rw [ne]
    refine iteT ?_
    obtain ⟨L, k', e2, AM, Ay⟩ := A2.parted
    subst e2
    obtain ⟨k, rfl, Tk⟩ : ∃ k, k' = [k] ∧ TmAt H2 y k := by
      match k', Ay with
      | [k], Ay => exact ⟨k, rfl, Ay.1⟩
    have ek : fs ++ (k :: (k.kids.reverse.flatMap Tm.rpost ++ L.reverse.flatMap Tm.rpost)) = t.rpost := by
      rw [← eq]
      simp [Tm.rpost_kids k]
    have room : fxs.length < t.size := by
      have := congrArg List.length ek
      rw [List.length_append, Tm.rpost_len, ← A1.len, List.length_cons] at this
      omega
    have big := big1000
    -- part = todo.pop()
    refine ⟨_, rfl, .inl ⟨rfl, _, .inl (.inl h2)⟩, d, _, y, rfl, rfl, h2, by simp, ?_⟩
    rw [List.dropLast_concat]
    have dp : d ≠ p := fun z => pd z.symm
    have t3 : ∀ a xs, H2 a = some (.tup xs) → upd H2 d (.lst M) a = some (.tup xs) := fun a xs z => by rw [upd_ne (ne_of z h2 (by intro z; cases z))]; exact z
    -- found.append(part)
    refine ⟨_, rfl, .inl ⟨rfl, fxs, .inl (.inl (by rw [upd_ne pd]; exact h1))⟩, _, rfl, p, fxs, y, rfl, rfl, (by rw [upd_ne pd]; exact h1), by omega, ?_⟩
    have h1' : (upd (upd H2 d (.lst M)) p (.lst (fxs ++ [y]))) p = some (.lst (fxs ++ [y])) := upd_same
    have h2' : (upd (upd H2 d (.lst M)) p (.lst (fxs ++ [y]))) d = some (.lst M) := by rw [upd_ne dp]; exact upd_same
    have t4 : ∀ a xs, H2 a = some (.tup xs) → (upd (upd H2 d (.lst M)) p (.lst (fxs ++ [y]))) a = some (.tup xs) := fun a xs z => by
      rw [upd_ne (ne_of z h1 (by intro z; cases z))]; exact t3 a xs z
    have pn : H p = none := hp
    have dn : H d = none := s1.free hd
    have sH4 : Same H (upd (upd H2 d (.lst M)) p (.lst (fxs ++ [y]))) := fun b o z => by
      rw [upd_ne (ne_of_none z pn), upd_ne (ne_of_none z dn)]; exact sH b o z
    -- todo.extend(_parts(part))
    refine ⟨_, rfl, .inl ⟨rfl, M, .inl (.inl h2')⟩, _, rfl, y, k, rfl, Tk.mono t4, fun g ks H5 hg h5 A5 s5 => ?_⟩
    have kl := A5.len
    have lim : M.length + ks.length ≤ sizeLine := by
      have a1 := congrArg List.length ek
      have a2 : k.kids.length ≤ 2 := by cases k <;> simp [Tm.kids]
      have a3 : L.length ≤ (L.reverse.flatMap Tm.rpost).length := by
        have : ∀ l : List Tm, l.length ≤ (l.flatMap Tm.rpost).length := by
          intro l
          induction l with
          | nil => simp
          | cons z l ih => rw [List.flatMap_cons, List.length_append, Tm.rpost_len, List.length_cons]; have := Tm.size_pos z; omega
        have := this L.reverse
        rwa [List.length_reverse] at this
      have a4 := AM.len
      rw [List.length_append, List.length_cons, List.length_append, Tm.rpost_len] at a1
      have a5 : (1000 : Nat) + 1000 ≤ sizeLine := by decide
      omega
    refine ⟨d, g, M, ks, rfl, rfl, s5 _ _ h2', .inl (.inl h5), lim, ?_⟩
    have h1'' := s5 _ _ h1'
    have t6 : ∀ a xs, H5 a = some (.tup xs) → upd H5 d (.lst (M ++ ks)) a = some (.tup xs) := fun a xs z => by rw [upd_ne (ne_of z (s5 _ _ h2') (by intro z; cases z))]; exact z
    have t7 : ∀ a xs, H2 a = some (.tup xs) → upd H5 d (.lst (M ++ ks)) a = some (.tup xs) := fun a xs z => t6 a xs (s5 _ _ (t4 a xs z))
    have h1d : (upd H5 d (.lst (M ++ ks))) p = some (.lst (fxs ++ [y])) := by rw [upd_ne pd]; exact h1''
    refine ⟨⟨fxs ++ [y], M ++ ks, fs ++ [k], L ++ k.kids, some y, rfl, h1d, upd_same, (A1.mono t7).append ⟨Tk.mono t7, trivial⟩, (AM.mono t7).append (A5.mono t6), ?_, ?_⟩, ?_⟩
    · rw [← ek]; simp
    · intro b o z
      rw [upd_ne (ne_of_none z dn)]
      exact s5 _ _ (sH4 b o z)
    · show leftOf t.size (some v :: some (.ref p) :: _) _ < leftOf t.size (some v :: some (.ref p) :: _) H2
      rw [leftOf_is h1d, leftOf_is h1, List.length_append, List.length_singleton]
      omega
end
end Rp

namespace Rp
open PySem L2 RZ
/-- [.. for a, b in zip(xs, ys)], both lists or both tuples, as long -/
theorem lc_pairs {J : It} {xs ys : List V} {g : TG} {tt : TT} {te : TE} {vs : List Nat} {σ : L2.St} {H1 : Hp} {D : Addr} {Qd : Hp → Prop} (same : xs.length = ys.length) (Pv : Nat → Hp → Prop)
    (stops : ∀ H, Pv xs.length H → J.stop xs.length H) (goes : ∀ i H, i < xs.length → Pv i H → J.go i H)
    (gives : ∀ i H v H', Pv i H → J.yld i H v H' → ∃ T x y, v = .ref T ∧ xs[i]? = some x ∧ ys[i]? = some y ∧ H T = none ∧ H' = upd H T (.tup [x, y]))
    (h0 : Pv 0 (upd H1 D (.lst [])))
    (hs : ∀ (i : Nat) (x y : V) (T : Addr) (H : Hp), xs[i]? = some x → ys[i]? = some y → Pv i H → H T = none → g (.ref T) (wipe σ vs) (upd H T (.tup [x, y])) fun σ2 H2 => wipe σ2 vs = wipe σ vs ∧
      tt σ2 H2 fun b H3 => if b = true then te σ2 H3 fun y H4 => ∃ acc, H4 D = some (.lst acc) ∧ acc.length < sizeLine ∧ Pv (i + 1) (upd H4 D (.lst (acc ++ [y]))) else Pv (i + 1) H3)
    (hd : ∀ H, Pv xs.length H → Qd H) :
    ∃ W : Nat → Nat → Hp → Prop, (∃ m, W 0 m (upd H1 D (.lst []))) ∧ ∀ i m H, W i m H → (J.stop i H ∧ Qd H) ∨
      (J.go i H ∧ ∃ Nx : Hp → Prop, (∀ H', Nx H' → ∃ m', m' < m ∧ W (i + 1) m' H') ∧ ∀ x H', J.yld i H x H' → g x (wipe σ vs) H' fun σ2 H2 => wipe σ2 vs = wipe σ vs ∧
        tt σ2 H2 fun b H3 => if b = true then te σ2 H3 fun y H4 => ∃ acc, H4 D = some (.lst acc) ∧ acc.length < sizeLine ∧ Nx (upd H4 D (.lst (acc ++ [y]))) else Nx H3) := by
  refine ⟨fun i m H => m + i = xs.length ∧ Pv i H, ⟨xs.length, by simp, h0⟩, ?_⟩
  rintro i m H ⟨em, p⟩
  rcases Nat.lt_or_ge i xs.length with lt | ge
  · refine .inr ⟨goes i H lt p, Pv (i + 1), fun H' p' => ⟨m - 1, by omega, by omega, p'⟩, fun v H' y => ?_⟩
    obtain ⟨T, x, y', rfl, hx, hy, hT, rfl⟩ := gives i H v H' p y
    exact hs i x y' T H hx hy p hT
  · have e : i = xs.length := by omega
    subst e
    exact .inl ⟨stops H p, hd H p⟩
def spSame (n : Nat) : Sp := fun vs H Q _ => ∃ (x y : V) (m : Nat), vs = [x, y] ∧ n = m + 1 ∧ Alike H m x y ∧ ∀ H', Same H H' → Q (.bl true) H'
section
variable {P : Program} {w : World} {K : PySem.W.Frag} {mg : Str → Option Value} {base : Heap}
structure SameG (mg : Str → Option Value) : Prop where
  isi : mg "isinstance" = none
  list : mg "list" = none
  tuple : mg "tuple" = none
  len : mg "len" = none
  all : mg "all" = none
  zip : mg "zip" = none
  str : mg "str" = none
  int : mg "int" = none
  bool : mg "bool" = none
theorem scSame : FnScope ["_law_found", "_law_due", "_law_one", "_law_two"] ["_law_found", "_law_due"] (defScope sSame) := ⟨rfl, rfl, rfl, by decide +kernel, rfl, by decide +kernel, by decide +kernel⟩
theorem kitB_of {K : PySem.W.Frag} {a b : String} {r : Bool} (h : kitB a b = some r) : PySem.W.kitOne K (.type a) (.type b) = some r := h
theorem kit_lt {K : PySem.W.Frag} {a : String} {p r : Bool} (h1 : kitB a "list" = some p) (h2 : kitB a "tuple" = some r) : PySem.W.kitAny K (.type a) [.type "list", .type "tuple"] = some (p || r) := by
  refine kitAny_cons (kitB_of h1) (fun e => ?_) (fun e => by rw [e]; rfl)
  refine kitAny_cons (kitB_of h2) (fun e2 => by rw [e, e2]; exact kitAny_nil) (fun e2 => by rw [e, e2]; rfl)
theorem ok_same {n : Nat} {f : Addr} {fd : FuncData} (F : Fun K "_law_same" "_law_same" sSame f fd) (b2 : Binds K fd ["_law_found", "_law_due"] []) (mF : mg "_law_same" = some (.ref f)) (G : FnOk P w K mg base CX0 n f fd ["_law_found", "_law_due"] (spSame n)) (M : SameG mg) :
    FnOk P w K mg base CX0 (n + 1) f fd ["_law_found", "_law_due"] (spSame (n + 1)) := by
  refine F.ok scSame (fun vs H Q E h => ?_) (fun cdv A outer s H vs Q E hr h => ?_)
  · obtain ⟨x, y, m, rfl, _⟩ := h
    rfl
  obtain ⟨x, y, m, rfl, em, hA, q⟩ := h
  have em : n = m := by omega
  subst em
  refine ⟨_, pss_cons (ps_if (pt_val (pe_callB (id := "isinstance") call_isiT (by rfl) M.isi (by decide +kernel) (pa_cons (pv 1) (pa_cons (pe_tup (pa_cons (pe_bltn (v := .ty "list") (by rfl) M.list (by decide +kernel) rfl) (pa_cons (pe_bltn (v := .ty "tuple") (by rfl) M.tuple (by decide +kernel) rfl) pa_nil))) pa_nil))))
      (pss_cons (ps_if (PW.pt (pw_or (pt_cmpR op_ne
            (pe_callB (id := "isinstance") call_isi (by rfl) M.isi (by decide +kernel) (pa_cons (pv 0) (pa_cons (pe_bltn (v := .ty "list") (by rfl) M.list (by decide +kernel) rfl) pa_nil)))
            (pe_callB (id := "isinstance") call_isi (by rfl) M.isi (by decide +kernel) (pa_cons (pv 1) (pa_cons (pe_bltn (v := .ty "list") (by rfl) M.list (by decide +kernel) rfl) pa_nil))) (nomark _))
          (pw_or1 (pt_cmpR op_ne
            (pe_callB (id := "isinstance") call_isi (by rfl) M.isi (by decide +kernel) (pa_cons (pv 0) (pa_cons (pe_bltn (v := .ty "tuple") (by rfl) M.tuple (by decide +kernel) rfl) pa_nil)))
            (pe_callB (id := "isinstance") call_isi (by rfl) M.isi (by decide +kernel) (pa_cons (pv 1) (pa_cons (pe_bltn (v := .ty "tuple") (by rfl) M.tuple (by decide +kernel) rfl) pa_nil))) (nomark _))))) (pss_one (ps_ret pe_bl)) pss_nil)
      (pss_cons (ps_if (pt_cmpR op_ne (pe_callB call_len_seq (by rfl) M.len PySem.boot_len (pa_cons (pv 0) pa_nil)) (pe_callB call_len_seq (by rfl) M.len PySem.boot_len (pa_cons (pv 1) pa_nil)) (nomark _)) (pss_one (ps_ret pe_bl)) pss_nil)
      (pss_one (ps_ret (pe_callB (cr_all rfl) (by rfl) M.all (by decide +kernel) (pa_cons (pe_lc (own := [("_law_one", 2), ("_law_two", 3)]) (g := gTup K 2 (gCons (gName 2) (gCons (gName 3) gNil))) (tt := tYes) (te := tCall (spSame n) [] E0 (tCons (tVar 2) (tCons (tVar 3) tNil))) rfl scSame.nd
        (pi_zipA (by rfl) M.zip (pa_cons (pv 0) (pa_cons (pv 1) pa_nil))) (blkOk_by (N := ["_law_found", "_law_due", "_law_one", "_law_two"]) (sc := defScope sSame) (by decide +kernel))
        (fun _ _ _ _ _ => pg_tup (by rfl) (pgs_cons (pg_name (i := 2) scSame.nd rfl (Or.inl rfl)) (pgs_cons (pg_name (i := 3) scSame.nd rfl (Or.inl rfl)) pgs_nil)))
        (fun _ _ _ _ _ => pts_nil) (fun _ _ _ _ _ => pe_call G hr (by rfl) mF F.kp b2 .nil pass0 (pa_cons (pv 2) (pa_cons (pv 3) pa_nil)))) pa_nil)))))) pss_nil)
    (pss_cons (ps_if (PW.pt (pw_or (pt_cmpR op_isN (pv 1) pe_non (nomark _)) (pw_or1 (pt_val (pe_callB (id := "isinstance") call_isi (by rfl) M.isi (by decide +kernel) (pa_cons (pv 1) (pa_cons (pe_bltn (v := .ty "str") (by rfl) M.str (by decide +kernel) rfl) pa_nil)))))))
      (pss_one (ps_ret (pe_and (pe_cmpR op_eq (pv 0) (pv 1) (nomark _)) (pe_one (pe_cmpR op_eq
            (pe_callB (id := "isinstance") call_isi (by rfl) M.isi (by decide +kernel) (pa_cons (pv 0) (pa_cons (pe_bltn (v := .ty "str") (by rfl) M.str (by decide +kernel) rfl) pa_nil)))
            (pe_callB (id := "isinstance") call_isi (by rfl) M.isi (by decide +kernel) (pa_cons (pv 1) (pa_cons (pe_bltn (v := .ty "str") (by rfl) M.str (by decide +kernel) rfl) pa_nil))) (nomark _)))))) pss_nil)
    (pss_one (ps_ret (pe_and (pe_callB (id := "isinstance") call_isi (by rfl) M.isi (by decide +kernel) (pa_cons (pv 0) (pa_cons (pe_bltn (v := .ty "int") (by rfl) M.int (by decide +kernel) rfl) pa_nil)))
      (pe_and (pe_cmpR op_eq
            (pe_callB (id := "isinstance") call_isi (by rfl) M.isi (by decide +kernel) (pa_cons (pv 0) (pa_cons (pe_bltn (v := .ty "bool") (by rfl) M.bool (by decide +kernel) rfl) pa_nil)))
            (pe_callB (id := "isinstance") call_isi (by rfl) M.isi (by decide +kernel) (pa_cons (pv 1) (pa_cons (pe_bltn (v := .ty "bool") (by rfl) M.bool (by decide +kernel) rfl) pa_nil))) (nomark _))
        (pe_one (pe_cmpR op_eq (pv 0) (pv 1) (nomark _)))))))), ?_⟩
  refine ⟨_, rfl, (by show 2 ≤ sizeLine; decide), fun p hp => ?_⟩
  have s1 := same_new hp (.tup [V.ty "list", V.ty "tuple"])
  have plain : Plain x ∧ x = y ∨ ∃ m a b xs ys, n = m + 1 ∧ x = .ref a ∧ y = .ref b ∧ ((H a = some (.lst xs) ∧ H b = some (.lst ys)) ∨ (H a = some (.tup xs) ∧ H b = some (.tup ys))) ∧
      xs.length = ys.length ∧ xs.length ≤ 1000000 ∧ ∀ (i : Nat) (u v : V), xs[i]? = some u → ys[i]? = some v → Alike H m u v := by
    cases n with
    | zero => unfold Alike at hA; exact .inl hA
    | succ m =>
      unfold Alike at hA
      rcases hA with h | ⟨a, b, xs, ys, h⟩
      · exact .inl h
      · exact .inr ⟨m, a, b, xs, ys, rfl, h⟩
  rcases plain with ⟨px, rfl⟩ | ⟨m, a, b, xs, ys, rfl, rfl, rfl, kinds, hl, hz, each⟩
  · cases x with
    | int i =>
      refine ⟨_, p, _, _, [.type "list", .type "tuple"], false, rfl, upd_same, .cons (.ty _) (.cons (.ty _) .nil), .base (.int i), kit_lt (p := false) (r := false) (by decide +kernel) (by decide +kernel), false, rfl, iteF ?_⟩
      refine ⟨_, rfl, rfl, false, congrArg V.bl (decide_eq_false (fun z => nomatch z)), iteF ?_⟩
      refine ⟨_, rfl, _, _, _, _, false, rfl, .ty "str", .base (.int i), kitB_of (by decide +kernel), false, rfl, iteF ?_⟩
      refine ⟨_, rfl, _, _, _, _, true, rfl, .ty "int", .base (.int i), kitB_of (by decide +kernel), true, rfl, iteT ?_⟩
      refine ⟨_, rfl, _, _, _, _, false, rfl, .ty "bool", .base (.int i), kitB_of (by decide +kernel), _, rfl, _, _, _, _, false, rfl, .ty "bool", .base (.int i), kitB_of (by decide +kernel), rfl, true, congrArg V.bl (decide_eq_true rfl), iteT ?_⟩
      refine ⟨_, rfl, _, rfl, rfl, ?_⟩
      have e : decide (V.int i = V.int i) = true := decide_eq_true rfl
      rw [e]
      exact q _ s1
    | bl i =>
      refine ⟨_, p, _, _, [.type "list", .type "tuple"], false, rfl, upd_same, .cons (.ty _) (.cons (.ty _) .nil), .base (.bl i), kit_lt (p := false) (r := false) (by decide +kernel) (by decide +kernel), false, rfl, iteF ?_⟩
      refine ⟨_, rfl, rfl, false, congrArg V.bl (decide_eq_false (fun z => nomatch z)), iteF ?_⟩
      refine ⟨_, rfl, _, _, _, _, false, rfl, .ty "str", .base (.bl i), kitB_of (by decide +kernel), false, rfl, iteF ?_⟩
      refine ⟨_, rfl, _, _, _, _, true, rfl, .ty "int", .base (.bl i), kitB_of (by decide +kernel), true, rfl, iteT ?_⟩
      refine ⟨_, rfl, _, _, _, _, true, rfl, .ty "bool", .base (.bl i), kitB_of (by decide +kernel), _, rfl, _, _, _, _, true, rfl, .ty "bool", .base (.bl i), kitB_of (by decide +kernel), rfl, true, congrArg V.bl (decide_eq_true rfl), iteT ?_⟩
      refine ⟨_, rfl, _, rfl, rfl, ?_⟩
      have e : decide (V.bl i = V.bl i) = true := decide_eq_true rfl
      rw [e]
      exact q _ s1
    | str i =>
      refine ⟨_, p, _, _, [.type "list", .type "tuple"], false, rfl, upd_same, .cons (.ty _) (.cons (.ty _) .nil), .base (.str i), kit_lt (p := false) (r := false) (by decide +kernel) (by decide +kernel), false, rfl, iteF ?_⟩
      refine ⟨_, rfl, rfl, false, congrArg V.bl (decide_eq_false (fun z => nomatch z)), iteF ?_⟩
      refine ⟨_, rfl, _, _, _, _, true, rfl, .ty "str", .base (.str i), kitB_of (by decide +kernel), true, rfl, iteT ?_⟩
      refine ⟨_, rfl, _, rfl, rfl, true, congrArg V.bl (decide_eq_true rfl), iteT ?_⟩
      refine ⟨_, rfl, _, _, _, _, true, rfl, .ty "str", .base (.str i), kitB_of (by decide +kernel), _, rfl, _, _, _, _, true, rfl, .ty "str", .base (.str i), kitB_of (by decide +kernel), rfl, ?_⟩
      have e : decide (V.bl true = V.bl true) = true := decide_eq_true rfl
      rw [e]
      exact q _ s1
    | non =>
      refine ⟨_, p, _, _, [.type "list", .type "tuple"], false, rfl, upd_same, .cons (.ty _) (.cons (.ty _) .nil), .base .non, kit_lt (p := false) (r := false) (by decide +kernel) (by decide +kernel), false, rfl, iteF ?_⟩
      refine ⟨_, rfl, rfl, true, congrArg V.bl (decide_eq_true rfl), iteT ?_⟩
      refine iteT ?_
      refine ⟨_, rfl, _, rfl, rfl, true, congrArg V.bl (decide_eq_true rfl), iteT ?_⟩
      refine ⟨_, rfl, _, _, _, _, false, rfl, .ty "str", .base .non, kitB_of (by decide +kernel), _, rfl, _, _, _, _, false, rfl, .ty "str", .base .non, kitB_of (by decide +kernel), rfl, ?_⟩
      have e : decide (V.bl false = V.bl false) = true := decide_eq_true rfl
      rw [e]
      exact q _ s1
    | _ => exact px.elim
  · rcases kinds with ⟨ha, hb⟩ | ⟨ha, hb⟩
    · have ha1 := s1 _ _ ha
      have hb1 := s1 _ _ hb
      refine ⟨_, p, _, _, [.type "list", .type "tuple"], true, rfl, upd_same, .cons (.ty _) (.cons (.ty _) .nil), .base (.lst hb1), kit_lt (p := true) (r := false) (by decide +kernel) (by decide +kernel), true, rfl, iteT ?_⟩
      refine ⟨_, rfl, _, _, _, _, true, rfl, .ty "list", .base (.lst ha1), kitB_of (by decide +kernel), _, rfl, _, _, _, _, true, rfl, .ty "list", .base (.lst hb1), kitB_of (by decide +kernel), rfl, false, congrArg (fun z => V.bl (!z)) (decide_eq_true rfl), iteF ?_⟩
      refine ⟨_, rfl, _, _, _, _, false, rfl, .ty "tuple", .base (.lst ha1), kitB_of (by decide +kernel), _, rfl, _, _, _, _, false, rfl, .ty "tuple", .base (.lst hb1), kitB_of (by decide +kernel), rfl, false, congrArg (fun z => V.bl (!z)) (decide_eq_true rfl), iteF ?_⟩
      refine ⟨_, rfl, a, _, rfl, .inl (.inl (.inl ha1)), _, rfl, b, _, rfl, .inl (.inl (.inl hb1)), rfl, false, congrArg (fun z => V.bl (!z)) (decide_eq_true (by rw [hl])), iteF ?_⟩
      refine ⟨_, rfl, _, rfl, a, b, xs, ys, rfl, .inl ⟨.inl (.inl ha1), .inl (.inl hb1), fun D hD => ?_⟩⟩
      refine lc_pairs (J := Itz K a b) (xs := xs) (ys := ys) hl (fun i H2 => H2 D = some (.lst (List.replicate i (V.bl true))) ∧ Same _ H2)
        (fun H2 h => ⟨xs, ys, .inl (.inl (h.2 _ _ ha1)), .inl (.inl (h.2 _ _ hb1)), .inl (Nat.le_refl _)⟩)
        (fun i H2 lt h => ⟨xs, ys, xs[i], ys[i]'(by omega), .inl (.inl (h.2 _ _ ha1)), .inl (.inl (h.2 _ _ hb1)), List.getElem?_eq_getElem lt, List.getElem?_eq_getElem (by omega)⟩)
        (fun i H2 v H3 h ⟨T, u, v', e1, hT, e2, f1, f2⟩ => ⟨T, u, v', e1, f1 xs (.inl (.inl (h.2 _ _ ha1))), f2 ys (.inl (.inl (h.2 _ _ hb1))), hT, e2⟩)
        ⟨upd_same, same_new hD _⟩ (fun i u v T H2 hu hv h hT => ?_) (fun H2 h => ⟨D, List.replicate xs.length true, rfl, .inl (.inl (by rw [List.map_replicate]; exact h.1)), ?_⟩)
      · have sT := same_new hT (.tup [u, v])
        refine ⟨T, _, rfl, .inl (.inl upd_same), rfl, _, _, rfl, _, _, rfl, rfl, rfl, ?_⟩
        have lt : i < xs.length := (List.getElem?_eq_some_iff.mp hu).1
        refine ⟨_, rfl, _, rfl, u, v, m, rfl, rfl, Alike.mono (s1.trans (h.2.trans sT)) m (each i u v hu hv), fun H4 s4 => ⟨_, s4 _ _ (sT _ _ h.1), ?_, ?_, ?_⟩⟩
        · rw [List.length_replicate]; exact Nat.lt_of_lt_of_le (by omega : i < 1000000) (by decide)
        · rw [upd_same, List.replicate_succ']
        · intro c o z
          have nD : c ≠ D := fun e => by subst e; rw [hD] at z; cases z
          rw [upd_ne nD]
          exact s4 _ _ (sT _ _ (h.2 _ _ z))
      · have e : (List.replicate xs.length true).all id = true := by rw [List.all_eq_true]; intro x hx; rw [List.eq_of_mem_replicate hx]; rfl
        rw [e]
        exact q _ (s1.trans h.2)
    · have ha1 := s1 _ _ ha
      have hb1 := s1 _ _ hb
      refine ⟨_, p, _, _, [.type "list", .type "tuple"], true, rfl, upd_same, .cons (.ty _) (.cons (.ty _) .nil), .base (.tup hb1), kit_lt (p := false) (r := true) (by decide +kernel) (by decide +kernel), true, rfl, iteT ?_⟩
      refine ⟨_, rfl, _, _, _, _, false, rfl, .ty "list", .base (.tup ha1), kitB_of (by decide +kernel), _, rfl, _, _, _, _, false, rfl, .ty "list", .base (.tup hb1), kitB_of (by decide +kernel), rfl, false, congrArg (fun z => V.bl (!z)) (decide_eq_true rfl), iteF ?_⟩
      refine ⟨_, rfl, _, _, _, _, true, rfl, .ty "tuple", .base (.tup ha1), kitB_of (by decide +kernel), _, rfl, _, _, _, _, true, rfl, .ty "tuple", .base (.tup hb1), kitB_of (by decide +kernel), rfl, false, congrArg (fun z => V.bl (!z)) (decide_eq_true rfl), iteF ?_⟩
      refine ⟨_, rfl, a, _, rfl, .inr (.inl (.inl ha1)), _, rfl, b, _, rfl, .inr (.inl (.inl hb1)), rfl, false, congrArg (fun z => V.bl (!z)) (decide_eq_true (by rw [hl])), iteF ?_⟩
      refine ⟨_, rfl, _, rfl, a, b, xs, ys, rfl, .inr ⟨.inl (.inl ha1), .inl (.inl hb1), fun D hD => ?_⟩⟩
      refine lc_pairs (J := ItzT K a b) (xs := xs) (ys := ys) hl (fun i H2 => H2 D = some (.lst (List.replicate i (V.bl true))) ∧ Same _ H2)
        (fun H2 h => ⟨xs, ys, .inl (.inl (h.2 _ _ ha1)), .inl (.inl (h.2 _ _ hb1)), .inl (Nat.le_refl _)⟩)
        (fun i H2 lt h => ⟨xs, ys, xs[i], ys[i]'(by omega), .inl (.inl (h.2 _ _ ha1)), .inl (.inl (h.2 _ _ hb1)), List.getElem?_eq_getElem lt, List.getElem?_eq_getElem (by omega)⟩)
        (fun i H2 v H3 h ⟨T, u, v', e1, hT, e2, f1, f2⟩ => ⟨T, u, v', e1, f1 xs (.inl (.inl (h.2 _ _ ha1))), f2 ys (.inl (.inl (h.2 _ _ hb1))), hT, e2⟩)
        ⟨upd_same, same_new hD _⟩ (fun i u v T H2 hu hv h hT => ?_) (fun H2 h => ⟨D, List.replicate xs.length true, rfl, .inl (.inl (by rw [List.map_replicate]; exact h.1)), ?_⟩)
      · have sT := same_new hT (.tup [u, v])
        refine ⟨T, _, rfl, .inl (.inl upd_same), rfl, _, _, rfl, _, _, rfl, rfl, rfl, ?_⟩
        have lt : i < xs.length := (List.getElem?_eq_some_iff.mp hu).1
        refine ⟨_, rfl, _, rfl, u, v, m, rfl, rfl, Alike.mono (s1.trans (h.2.trans sT)) m (each i u v hu hv), fun H4 s4 => ⟨_, s4 _ _ (sT _ _ h.1), ?_, ?_, ?_⟩⟩
        · rw [List.length_replicate]; exact Nat.lt_of_lt_of_le (by omega : i < 1000000) (by decide)
        · rw [upd_same, List.replicate_succ']
        · intro c o z
          have nD : c ≠ D := fun e => by subst e; rw [hD] at z; cases z
          rw [upd_ne nD]
          exact s4 _ _ (sT _ _ (h.2 _ _ z))
      · have e : (List.replicate xs.length true).all id = true := by rw [List.all_eq_true]; intro x hx; rw [List.eq_of_mem_replicate hx]; rfl
        rw [e]
        exact q _ (s1.trans h.2)
theorem same_ok {f : Addr} {fd : FuncData} (F : Fun K "_law_same" "_law_same" sSame f fd) (b2 : Binds K fd ["_law_found", "_law_due"] []) (mF : mg "_law_same" = some (.ref f)) (M : SameG mg) :
    ∀ n : Nat, FnOk P w K mg base CX0 n f fd ["_law_found", "_law_due"] (spSame n)
  | 0 => none_left fun vs H Q E h => by
    obtain ⟨x, y, m, _, e, _⟩ := h
    omega
  | n + 1 => ok_same F b2 mF (same_ok F b2 mF M n) M
end
end Rp

namespace Rp
open PySem L2
section
variable {P : Program} {w : World} {K : PySem.W.Frag} {mg : Str → Option Value} {base : Heap}
theorem scVars : FnScope ["term", "part"] ["term"] (defScope sVars) := ⟨rfl, rfl, rfl, by decide +kernel, rfl, by decide +kernel, by decide +kernel⟩
theorem back_len (t : Tm) : t.rpost.reverse.length = t.size := by rw [List.length_reverse, Tm.rpost_len]
theorem ok_vars {f fI : Addr} {fd fdI : FuncData} (F : Fun K "variables" "variables" sVars f fd) (GI : FnOk P w K mg base CX0 2 fI fdI ["term"] spInside) (kI : PySem.W.keepIn K (.ref fI) = true) (bI : Binds K fdI ["term"] []) (mI : mg "inside_out" = some (.ref fI))
    (mSorted : mg "sorted" = none) (mIsi : mg "isinstance" = none) (mInt : mg "int" = none) : FnOk P w K mg base CX0 3 f fd ["term"] spVars := by
  refine F.ok scVars (fun vs H Q E h => ?_) (fun cdv A outer s H vs Q E hr h => ?_)
  · obtain ⟨v, t, rfl, _⟩ := h
    rfl
  obtain ⟨v, t, rfl, T, hz, q⟩ := h
  refine ⟨_, pss_one (ps_ret (pe_callB (cr_sortedSet rfl) (by rfl) mSorted (by decide +kernel) (pa_cons (pe_scI (own := [("part", 1)]) (g := gName 1) (tt := tB (tCB (rIsi K) (tCons (tVar 1) (tCons (tC (.ty "int")) tNil)))) (te := tVar 1) rfl scVars.nd
      (pi_list (pe_call GI hr rfl mI kI bI .nil pass0 (pa_cons (pv 0) pa_nil))) (blkOk_by (N := ["term", "part"]) (sc := defScope sVars) (by decide +kernel)) (fun _ _ _ _ _ => pg_name (i := 1) scVars.nd rfl (Or.inl rfl))
      (fun _ _ _ _ _ => pts_one (pt_val (pe_callB (id := "isinstance") call_isi (by rfl) mIsi (by decide +kernel) (pa_cons (pv 1) (pa_cons (pe_bltn (v := .ty "int") (by rfl) mInt (by decide +kernel) rfl) pa_nil)))))
      (fun _ _ _ _ _ => pv 1)) pa_nil))), ?_⟩
  refine ⟨_, rfl, v, t, rfl, T, by omega, fun p xs H1 hp h A s1 => ?_⟩
  refine ⟨p, rfl, ⟨xs, .inl (.inl h)⟩, fun D hD => scI_list (K := K) (a := p) (xs := xs) (fun i H2 => ∃ (S : Int → Bool) (n : Nat), H2 D = some (SetO w D S n) ∧ n ≤ i ∧ (∀ k, S k = true ↔ Tm.v k ∈ t.rpost.reverse.take i) ∧
    (∀ b o, H1 b = some o → H2 b = some o)) ⟨_, 0, upd_same, Nat.le_refl _, fun k => by simp, fun b o z => by rw [upd_ne (ne_of_none z hD)]; exact z⟩ (fun i H2 _ ⟨_, _, _, _, _, z⟩ => .inl (.inl (z _ _ h))) ?_ ?_⟩
  · rintro i x H2 hi ⟨S, n, hS, hn, hm, hk⟩
    obtain ⟨k, hk1, Tk⟩ := A.get hi
    have lt : i < t.size := by rw [← back_len t, ← A.len]; exact (List.getElem?_eq_some_iff.mp hi).1
    have tk : t.rpost.reverse.take (i + 1) = t.rpost.reverse.take i ++ [k] := by rw [List.take_add_one, hk1]; rfl
    have Tk2 := Tk.mono (H' := H2) fun a ys z => hk _ _ z
    rcases Tk2.ty (K := K) with ⟨m, rfl, rfl⟩ | ⟨a, ys, rfl, ha, ty, no⟩
    · refine ⟨rfl, _, rfl, _, _, _, _, true, rfl, .ty "int", .base (.int m), kit_ii, true, rfl, iteT ?_⟩
      refine ⟨_, rfl, m, S, n, rfl, hS, (Nat.lt_of_le_of_lt (by omega : n + 1 ≤ 100) (by decide : 100 < scanBound)), ?_⟩
      refine ⟨_, _, upd_same, ?_, fun k => ?_, fun b o z => ?_⟩
      · split <;> omega
      · rw [tk, List.mem_append, ← hm k]
        simp
      · have nb : b ≠ D := fun e => by subst e; rw [hD] at z; cases z
        rw [upd_ne nb]
        exact hk b o z
    · refine ⟨rfl, _, rfl, _, _, _, _, false, rfl, .ty "int", ty, kit_ti, false, rfl, iteF ?_⟩
      refine ⟨S, n, hS, by omega, fun k' => ?_, hk⟩
      rw [tk, List.mem_append, ← hm k']
      simp
      intro e
      exact absurd e.symm (no k')
  · rintro H2 ⟨S, n, hS, hn, hm, hk⟩
    refine ⟨D, S, n, rfl, hS, ?_, fun ns p2 up mem len hp2 => ?_⟩
    · have := A.len
      rw [back_len] at this
      omega
    · refine q p2 ns _ ?_ upd_same up (fun k => ?_) ?_
      · exact s1.free (Same.free (H := H1) hk hp2)
      · rw [mem k, hm k, List.take_of_length_le (by rw [A.len]; exact Nat.le_refl _), List.mem_reverse, Tm.mem_rpost]
      · exact s1.trans (Same.trans (H1 := H2) hk (same_new hp2 _))
end
end Rp

/-! What k10 takes over: small TERMs, the stack, NAMEs. -/
namespace Rp
open PySem PySem.Spec PyProof.Rows L2 TL
namespace Tm
def small (t : Tm) : Prop := ∀ n ∈ t.nums, 0 ≤ n ∧ n ≤ 99
end Tm
theorem slen (a b : Str) : (a ++ b).length = a.length + b.length := Str.length_append a b
theorem join1 (a x : Str) : Txt.join a [x] = x := by rw [TL.join_eq]; simp [Str.join]
def runs : List Tm → List Tm → List Tm → Prop
  | S, [], S' => S = S'
  | S, k :: r, S' => ∃ S0, S = S0 ++ k.kids ∧ runs (S0 ++ [k]) r S'
theorem runs_post : ∀ (t : Tm) (S r S' : List Tm), runs (S ++ [t]) r S' → runs S (t.rpost.reverse ++ r) S'
  | .v n, S, r, S', h => by simp only [Tm.rpost, List.reverse_singleton, List.singleton_append]; exact ⟨S, by simp [Tm.kids], h⟩
  | .z, S, r, S', h => by simp only [Tm.rpost, List.reverse_singleton, List.singleton_append]; exact ⟨S, by simp [Tm.kids], h⟩
  | .s t, S, r, S', h => by
    simp only [Tm.rpost, List.reverse_cons, List.append_assoc, List.singleton_append]
    exact runs_post t S _ _ ⟨S, by simp [Tm.kids], h⟩
  | .f l r', S, r, S', h => by
    simp only [Tm.rpost, List.reverse_cons, List.reverse_append, List.append_assoc, List.singleton_append]
    refine runs_post l S _ _ (runs_post r' (S ++ [l]) _ _ ⟨S, by simp [Tm.kids], h⟩)
theorem part_of : ∀ {t k : Tm}, k ∈ t.rpost → k.size ≤ t.size ∧ ∀ n ∈ k.nums, n ∈ t.nums
  | .v n, k, h => by simp [Tm.rpost] at h; subst h; exact ⟨Nat.le_refl _, fun n h => h⟩
  | .z, k, h => by simp [Tm.rpost] at h; subst h; exact ⟨Nat.le_refl _, fun n h => h⟩
  | .s t, k, h => by
    simp [Tm.rpost] at h
    rcases h with rfl | h
    · exact ⟨Nat.le_refl _, fun n h => h⟩
    · have := part_of h
      exact ⟨by simp only [Tm.size]; omega, this.2⟩
  | .f l r, k, h => by
    simp [Tm.rpost] at h
    rcases h with rfl | h | h
    · exact ⟨Nat.le_refl _, fun n h => h⟩
    · have := part_of h
      exact ⟨by simp only [Tm.size]; omega, fun n hn => List.mem_append.mpr (.inr (this.2 n hn))⟩
    · have := part_of h
      exact ⟨by simp only [Tm.size]; omega, fun n hn => List.mem_append.mpr (.inl (this.2 n hn))⟩
theorem drop_min {α : Type} (xs : List α) (i : Nat) : xs.drop (min i xs.length) = xs.drop i := by
  rcases Nat.le_total i xs.length with h | h
  · rw [Nat.min_eq_left h]
  · rw [Nat.min_eq_right h, List.drop_length, List.drop_of_length_le h]
theorem cut_from {xs : List V} {i : Nat} {a : Int} (h : a = (i : Nat)) : cutV xs (some a) none = xs.drop i := by
  subst h
  unfold cutV
  rw [HT.sIx_none, HT.sIx_nat, drop_min]
  refine List.take_of_length_le ?_
  rw [List.length_drop]
  omega
def letters : Str := "abcdefghijklmnopqrstuvwxyz"
structure NameOk (x : Str) : Prop where
  pos : 1 ≤ x.length
  few : x.length ≤ 6
  low : ∀ c ∈ tl x, 97 ≤ c ∧ c ≤ 122
  nif : x ≠ "if"
theorem in_letters {c : Nat} (h : 97 ≤ c ∧ c ≤ 122) : c ∈ letters.cps.toList := by
  have all : ∀ k : Fin 26, k.val + 97 ∈ letters.cps.toList := by decide +kernel
  have := all ⟨c - 97, by omega⟩
  rwa [show c - 97 + 97 = c by omega] at this
end Rp

set_option maxHeartbeats 8000000
/-! The law's terms. -/
namespace Rp
open PySem PySem.Spec PyProof.Rows L2 TL
def spLVar : Sp := fun vs H Q _ => ∃ (b : Addr) (j : Nat), vs = [.ref b] ∧ BoxAt H b j ∧ j + 3 ≤ 1000000 ∧ ∀ (n : Int) (H' : Hp), 0 ≤ n → n ≤ 99 → BoxAt H' b (j + 3) → But b H H' → Q (.int n) H'
def spLTerm (n : Nat) : Sp := fun vs H Q _ => ∃ (b : Addr) (j d : Nat), vs = [.ref b, .int d] ∧ BoxAt H b j ∧ d < n ∧ d ≤ 4 ∧ j + (6 * 2 ^ d - 1) ≤ 1000000 ∧
  ∀ (v : V) (t : Tm) (H' : Hp), TmAt H' v t → t.small → t.size + 1 ≤ 2 ^ (d + 1) → BoxAt H' b (j + (6 * 2 ^ d - 1)) → But b H H' → Q v H'
section
variable {P : Program} {w : World} {K : PySem.W.Frag} {mg : Str → Option Value} {base : Heap}
theorem scLVar : FnScope ["_law_box_here"] ["_law_box_here"] (defScope sVariableL) := ⟨rfl, rfl, rfl, by decide +kernel, rfl, by decide +kernel, by decide +kernel⟩
theorem ok_lvar {f fT : Addr} {fd fdT : FuncData} (F : Fun K "_law_variable" "_law_variable" sVariableL f fd) (FT : Fun K "_law_take" "_law_take" sTake fT fdT) (bT : Binds K fdT ["_law_box_here", "_law_top"] []) (mT : mg "_law_take" = some (.ref fT)) :
    FnOk P w K mg base CX0 2 f fd ["_law_box_here"] spLVar := by
  have GT : FnOk P w K mg base CX0 1 fT fdT ["_law_box_here", "_law_top"] spTake := ok_take FT
  refine F.ok scLVar (fun vs H Q E h => ?_) (fun cdv A outer s H vs Q E hr h => ?_)
  · obtain ⟨b, j, rfl, _⟩ := h
    rfl
  obtain ⟨b, j, rfl, B, hj, q⟩ := h
  refine ⟨_, pss_one (ps_ret (pe_ix ix_list (pe_lst (pa_cons (pe_call GT hr rfl mT FT.kp bT .nil pass0 (pa_cons (pv 0) (pa_cons pe_int pa_nil))) (pa_cons (pe_call GT hr rfl mT FT.kp bT .nil pass0 (pa_cons (pv 0) (pa_cons pe_int pa_nil))) pa_nil)))
    (pe_call GT hr rfl mT FT.kp bT .nil pass0 (pa_cons (pv 0) (pa_cons pe_int pa_nil))) (fun _ _ => rfl))), ?_⟩
  refine ⟨_, rfl, b, _, j, rfl, B, by omega, by decide, by decide, fun r1 H1 a0 a1 B1 o1 => ?_⟩
  refine ⟨_, rfl, b, _, _, rfl, B1, by omega, by decide, by decide, fun r2 H2 b0 b1 B2 o2 => ?_⟩
  refine ⟨(by show 2 ≤ sizeLine; decide), fun d hd => ?_⟩
  have s3 := same_new hd (.lst [V.int r1, V.int r2])
  refine ⟨_, rfl, b, _, _, rfl, B2.same s3, by omega, by decide, by decide, fun r3 H4 c0 c1 B4 o4 => ?_⟩
  obtain ⟨ys, hb⟩ := B2.some
  have db : d ≠ b := fun e => by subst e; rw [hb] at hd; cases hd
  have hd4 := o4 _ _ upd_same db
  obtain ⟨num, hat, hnum⟩ : ∃ num : Int, atI [V.int r1, V.int r2] r3 = some (.int num) ∧ 0 ≤ num ∧ num ≤ 99 := by
    rcases (by omega : r3 = 0 ∨ r3 = 1) with e | e <;> subst e
    · exact ⟨_, at_of (j := 0) rfl rfl, by omega, by omega⟩
    · exact ⟨_, at_of (j := 1) rfl rfl, by omega, by omega⟩
  exact ⟨d, _, _, _, rfl, rfl, .inl (.inl hd4), hat, q num H4 hnum.1 hnum.2 B4 (o1.trans (o2.trans ((but_of s3).trans o4)))⟩
theorem scLTerm : FnScope ["_law_box_here", "_law_deep", "_law_way"] ["_law_box_here", "_law_deep"] (defScope sTermL) := ⟨rfl, rfl, rfl, by decide +kernel, rfl, by decide +kernel, by decide +kernel⟩
theorem TmAt.box {H H' : Hp} {b : Addr} {v : V} {t : Tm} {j : Nat} (T : TmAt H v t) (o : But b H H') (B : BoxAt H b j) : TmAt H' v t := by
  obtain ⟨ys, hb⟩ := B.some
  exact T.mono fun a xs z => o _ _ z (ne_of z hb (by intro e; cases e))
theorem ok_lterm {n : Nat} {f fT fV : Addr} {fd fdT dV : FuncData} (F : Fun K "_law_term" "_law_term" sTermL f fd) (b2 : Binds K fd ["_law_box_here", "_law_deep"] []) (mF : mg "_law_term" = some (.ref f))
    (G : FnOk P w K mg base CX0 (n + 2) f fd ["_law_box_here", "_law_deep"] (spLTerm n))
    (FT : Fun K "_law_take" "_law_take" sTake fT fdT) (bT : Binds K fdT ["_law_box_here", "_law_top"] []) (mT : mg "_law_take" = some (.ref fT))
    (GV : FnOk P w K mg base CX0 2 fV dV ["_law_box_here"] spLVar) (kV : PySem.W.keepIn K (.ref fV) = true) (bV : Binds K dV ["_law_box_here"] []) (mV : mg "_law_variable" = some (.ref fV)) :
    FnOk P w K mg base CX0 (n + 3) f fd ["_law_box_here", "_law_deep"] (spLTerm (n + 1)) := by
  have GT : FnOk P w K mg base CX0 1 fT fdT ["_law_box_here", "_law_top"] spTake := ok_take FT
  refine F.ok scLTerm (fun vs H Q E h => ?_) (fun cdv A outer s H vs Q E hr h => ?_)
  · obtain ⟨b, j, d, rfl, _⟩ := h
    rfl
  obtain ⟨b, j, d, rfl, B, dn, d4, hj, q⟩ := h
  have r1 : Room 1 _ := hr.mono (by omega)
  have r2 : Room 2 _ := hr.mono (by omega)
  refine ⟨_, pss_cons (ps_set (i := 2) scLTerm.nd rfl (Or.inl rfl) (pe_call GT r1 rfl mT FT.kp bT .nil pass0 (pa_cons (pv 0) (pa_cons pe_int pa_nil))))
    (pss_cons (ps_if (PW.pt (pw_or (pt_cmpR op_lt (pv 1) pe_int (nomark _)) (pw_or1 (pt_cmpR op_eq (pv 2) pe_int (nomark _))))) (pss_one (ps_ret (pe_ifExp (pt_cmpR op_gt (pe_call GT r1 rfl mT FT.kp bT .nil pass0 (pa_cons (pv 0) (pa_cons pe_int pa_nil))) pe_int (nomark _))
        (pe_call GV r2 rfl mV kV bV .nil pass0 (pa_cons (pv 0) pa_nil)) (pe_tup (pa_cons pe_str pa_nil))))) pss_nil)
    (pss_cons (ps_if (pt_cmpR op_lt (pv 2) pe_int (nomark _)) (pss_one (ps_ret (pe_tup (pa_cons pe_str (pa_cons (pe_call G hr rfl mF F.kp b2 .nil pass0 (pa_cons (pv 0) (pa_cons (pe_op op_sub (pv 1) pe_int) pa_nil))) pa_nil))))) pss_nil)
    (pss_one (ps_ret (pe_ifExp (pt_cmpR op_eq (pv 2) pe_int (nomark _)) (pe_tup (pa_cons pe_str (pa_cons (pe_call G hr rfl mF F.kp b2 .nil pass0 (pa_cons (pv 0) (pa_cons (pe_op op_sub (pv 1) pe_int) pa_nil))) (pa_cons (pe_call G hr rfl mF F.kp b2 .nil pass0 (pa_cons (pv 0) (pa_cons (pe_op op_sub (pv 1) pe_int) pa_nil))) pa_nil))))
      (pe_call GV r2 rfl mV kV bV .nil pass0 (pa_cons (pv 0) pa_nil))))))), ?_⟩
  have p1 : 1 ≤ 2 ^ d := Nat.one_le_two_pow
  have p2 : 2 ^ (d + 1) = 2 * 2 ^ d := by rw [Nat.pow_succ]; omega
  refine ⟨_, rfl, b, _, j, rfl, B, by omega, by decide, by decide, fun way H1 w0 w5 B1 o1 => ?_⟩
  -- a variable, drawn
  have var : ∀ (H2 : Hp) (j2 : Nat), BoxAt H2 b j2 → But b H H2 → j2 + 3 ≤ j + (6 * 2 ^ d - 1) → ∀ E', spLVar [.ref b] H2 Q E' := fun H2 j2 B2 o2 le _ => ⟨b, j2, rfl, B2, by omega, fun m H3 m0 m9 B3 o3 =>
    q (.int m) (.v m) H3 (.v m) (fun k hk => by simp [Tm.nums] at hk; subst hk; exact ⟨m0, m9⟩) (by show 1 + 1 ≤ _; omega) (B3.more (by omega)) (o2.trans o3)⟩
  refine ⟨_, rfl, _, _, rfl, rfl, decide ((d : Int) < 1), rfl, ?_⟩
  by_cases hd : d = 0
  · rw [decide_eq_true (by omega)]
    refine iteT ?_
    refine ⟨_, rfl, b, _, _, rfl, B1, by omega, by decide, by decide, fun r3 H2 c0 c1 B2 o2 => ?_⟩
    refine ⟨_, _, rfl, rfl, decide ((0 : Int) < r3), rfl, ?_⟩
    by_cases h3 : (0 : Int) < r3
    · rw [decide_eq_true h3]
      exact iteT ⟨_, rfl, var H2 _ B2 (o1.trans o2) (by omega) E⟩
    · rw [decide_eq_false h3]
      refine iteF ⟨(by show 1 ≤ sizeLine; decide), fun c hc => ?_⟩
      have s3 := same_new hc (.tup [V.str "0"])
      exact q (.ref c) .z _ (.z upd_same) (fun k hk => by simp [Tm.nums] at hk) (by show 1 + 1 ≤ _; omega) ((B2.same s3).more (by omega)) (o1.trans (o2.trans (but_of s3)))
  · rw [decide_eq_false (by omega)]
    by_cases hw : way = 0
    · refine iteF ⟨_, rfl, rfl, true, congrArg V.bl (decide_eq_true (by rw [hw])), iteT ?_⟩
      refine ⟨_, rfl, b, _, _, rfl, B1, by omega, by decide, by decide, fun r3 H2 c0 c1 B2 o2 => ?_⟩
      refine ⟨_, _, rfl, rfl, decide ((0 : Int) < r3), rfl, ?_⟩
      by_cases h3 : (0 : Int) < r3
      · rw [decide_eq_true h3]
        exact iteT ⟨_, rfl, var H2 _ B2 (o1.trans o2) (by omega) E⟩
      · rw [decide_eq_false h3]
        refine iteF ⟨(by show 1 ≤ sizeLine; decide), fun c hc => ?_⟩
        have s3 := same_new hc (.tup [V.str "0"])
        exact q (.ref c) .z _ (.z upd_same) (fun k hk => by simp [Tm.nums] at hk) (by show 1 + 1 ≤ _; omega) ((B2.same s3).more (by omega)) (o1.trans (o2.trans (but_of s3)))
    · refine iteF ⟨_, rfl, rfl, false, congrArg V.bl (decide_eq_false (fun z => hw (by injection z))), iteF ?_⟩
      obtain ⟨e, rfl⟩ : ∃ e, d = e + 1 := ⟨d - 1, by omega⟩
      have e1 : ([V.ref b, V.int (((e + 1 : Nat) : Int) - 1)] : List V) = [V.ref b, V.int (e : Nat)] := by rw [show (((e + 1 : Nat) : Int) - 1) = (e : Nat) by omega]
      have p0 : 1 ≤ 2 ^ e := Nat.one_le_two_pow
      have p3 : 2 ^ (e + 1) = 2 * 2 ^ e := by rw [Nat.pow_succ]; omega
      refine ⟨_, rfl, _, _, rfl, rfl, decide (way < 3), rfl, ?_⟩
      by_cases h3 : way < 3
      · rw [decide_eq_true h3]
        refine iteT ⟨_, rfl, _, rfl, _, _, rfl, rfl, b, _, e, e1, B1, by omega, by omega, by omega, fun v t H2 T sm sz B2 o2 => ?_⟩
        refine ⟨(by show 2 ≤ sizeLine; decide), fun c hc => ?_⟩
        have s3 := same_new hc (.tup [V.str "s", v])
        exact q (.ref c) (.s t) _ (.s upd_same (T.same s3)) sm (by rw [p2]; simp only [Tm.size]; omega) ((B2.same s3).more (by omega)) (o1.trans (o2.trans (but_of s3)))
      · rw [decide_eq_false h3]
        by_cases h4 : way = 3
        · refine iteF ⟨_, rfl, rfl, true, congrArg V.bl (decide_eq_true (by rw [h4])), iteT ?_⟩
          refine ⟨_, rfl, _, rfl, _, _, rfl, rfl, b, _, e, e1, B1, by omega, by omega, by omega, fun v t H2 T sm sz B2 o2 => ?_⟩
          refine ⟨_, rfl, _, rfl, _, _, rfl, rfl, b, _, e, e1, B2, by omega, by omega, by omega, fun v' t' H3 T' sm' sz' B3 o3 => ?_⟩
          refine ⟨(by show 3 ≤ sizeLine; decide), fun c hc => ?_⟩
          have s4 := same_new hc (.tup [V.str "f", v, v'])
          exact q (.ref c) (.f t t') _ (.f upd_same ((T.box o3 B2).same s4) (T'.same s4)) (fun k hk => by
            rcases List.mem_append.mp hk with hk | hk
            · exact sm k hk
            · exact sm' k hk) (by rw [p2]; simp only [Tm.size]; omega) ((B3.same s4).more (by omega)) (o1.trans (o2.trans (o3.trans (but_of s4))))
        · refine iteF ⟨_, rfl, rfl, false, congrArg V.bl (decide_eq_false (fun z => h4 (by injection z))), iteF ⟨_, rfl, var H1 _ B1 o1 (by omega) E⟩⟩
theorem lterm_ok {f fT fV : Addr} {fd fdT dV : FuncData} (F : Fun K "_law_term" "_law_term" sTermL f fd) (b2 : Binds K fd ["_law_box_here", "_law_deep"] []) (mF : mg "_law_term" = some (.ref f))
    (FT : Fun K "_law_take" "_law_take" sTake fT fdT) (bT : Binds K fdT ["_law_box_here", "_law_top"] []) (mT : mg "_law_take" = some (.ref fT))
    (GV : FnOk P w K mg base CX0 2 fV dV ["_law_box_here"] spLVar) (kV : PySem.W.keepIn K (.ref fV) = true) (bV : Binds K dV ["_law_box_here"] []) (mV : mg "_law_variable" = some (.ref fV)) :
    ∀ n : Nat, FnOk P w K mg base CX0 (n + 2) f fd ["_law_box_here", "_law_deep"] (spLTerm n)
  | 0 => none_left fun vs H Q E h => by
    obtain ⟨b, j, d, _, _, h, _⟩ := h
    omega
  | n + 1 => ok_lterm F b2 mF (lterm_ok F b2 mF FT bT mT GV kV bV mV n) FT bT mT GV kV bV mV
end
end Rp

set_option maxHeartbeats 8000000
/-! The law's folded script, its words. -/
namespace Rp
open PySem PySem.Spec PyProof.Rows L2 TL StX
theorem cut_to {xs : List V} (n : Nat) : cutV xs none (some (n : Int)) = xs.take n := by
  unfold cutV
  rw [HT.sIx_none, HT.sIx_nat, List.drop_zero, Nat.sub_zero]
  rcases Nat.le_total n xs.length with h | h
  · rw [Nat.min_eq_left h]
  · rw [Nat.min_eq_right h, List.take_length, List.take_of_length_le h]
theorem cut_mid {xs : List V} (n m : Nat) : ∃ a b, cutV xs (some (n : Int)) (some (m : Int)) = (xs.drop (min n xs.length)).take b ∧ a = b := ⟨_, _, by unfold cutV; rw [HT.sIx_nat, HT.sIx_nat], rfl⟩
theorem eqv_lnil {ds : List PyData} : PyData.eqv (.list ds) (.list []) = ds.isEmpty := by
  cases ds <;> simp [PyData.eqv, PyData.eqvAll]
theorem shaped_of {d : PyData} (h : d.canLay0 = true) (h' : d.depth ≤ 64) : SeqAt.shaped d = true := by
  show (d.canLay0 && decide (d.depth ≤ 64)) = true
  rw [h, decide_eq_true h']
  rfl
theorem dp_ints {K : PySem.W.Frag} {H : Hp} : ∀ l : List Int, DpAll K H (l.map V.int) (l.map PyData.int)
  | [] => .nil
  | x :: l => .cons (.int x) (dp_ints l)
theorem ints_lay : ∀ l : List Int, PyData.canLayAll0 (l.map PyData.int) = true ∧ PyData.depthAll (l.map PyData.int) = 0
  | [] => ⟨rfl, rfl⟩
  | x :: l => by
    have ih := ints_lay l
    simp only [List.map_cons, PyData.canLayAll0, PyData.canLay0, PyData.depthAll, PyData.depth, ih.1, ih.2]
    exact ⟨rfl, rfl⟩
theorem ints_shaped (l : List Int) : SeqAt.shaped (.list (l.map PyData.int)) = true := by
  refine shaped_of ?_ ?_
  · show PyData.canLayAll0 _ = true
    exact (ints_lay l).1
  · show PyData.depthAll _ + 1 ≤ 64
    rw [(ints_lay l).2]
    decide
theorem ixN_int {n : Nat} {i : Int} (h : 0 ≤ i ∧ i < n) : ixN n i = some i.toNat := by unfold ixN; rw [if_pos h.1, if_pos h.2]
theorem but_none {H H' : Hp} {b : Addr} {j : Nat} (o : But b H H') (B : BoxAt H' b j) {D : Addr} (h : H' D = none) : H D = none := by
  cases e : H D with
  | none => rfl
  | some u =>
    have nb : D ≠ b := by
      rintro rfl
      obtain ⟨ys, hb⟩ := B.some
      rw [hb] at h; cases h
    have := o _ _ e nb
    rw [h] at this; cases this
theorem BoxAt.upd {H : Hp} {b D : Addr} {j : Nat} (B : BoxAt H b j) (n : D ≠ b) (o : HO) : BoxAt (L2.upd H D o) b j := by
  obtain ⟨x, y, z, h, r⟩ := B.ex
  exact ⟨x, y, z, by rw [upd_ne n.symm]; exact h, r⟩
def spFolded (K : PySem.W.Frag) : Sp := fun vs H Q _ => ∃ (a : Addr) (ns : List Int), vs = [.ref a, .int 4] ∧ SqL K H a (ns.map V.int) ∧ ns.length ≤ 63 ∧
  ∀ (p : Addr) (cs : List Int) (H' : Hp), H p = none → H' p = some (.lst (cs.map V.int)) → 1 ≤ cs.length → cs.length ≤ 4 → Same H H' → Q (.ref p) H'
def Low (x : Str) : Prop := ∀ c ∈ tl x, 97 ≤ c ∧ c ≤ 122
theorem low_cut {z : Str} (h : Low z) (lo hi : Option Int) : Low (cutS z lo hi) := by
  intro c hc
  have hc : c ∈ (z.cps.toList.drop (HT.sIx z.length 0 lo)).take (HT.sIx z.length z.length hi - HT.sIx z.length 0 lo) := hc
  exact h c (List.mem_of_mem_drop (List.mem_of_mem_take hc))
theorem cutS_parts {z : Str} {k : Nat} (h : k ≤ z.length) : (cutS z none (some (k : Int))).length = k ∧ (cutS z (some (k : Int)) none).length = z.length - k := by
  have e : z.cps.toList.length = z.length := Array.length_toList
  constructor
  · show (((z.cps.toList.drop (HT.sIx z.length 0 none)).take (HT.sIx z.length z.length (some (k : Int)) - HT.sIx z.length 0 none)).toArray).size = k
    rw [List.size_toArray, HT.sIx_none, HT.sIx_nat, List.length_take, List.length_drop, e]
    omega
  · show (((z.cps.toList.drop (HT.sIx z.length 0 (some (k : Int)))).take (HT.sIx z.length z.length none - HT.sIx z.length 0 (some (k : Int)))).toArray).size = _
    rw [List.size_toArray, HT.sIx_none, HT.sIx_nat, List.length_take, List.length_drop, e]
    omega
theorem low_append {a b : Str} (ha : Low a) (hb : Low b) : Low (a ++ b) := by
  intro c hc
  rw [tl_append] at hc
  rcases List.mem_append.mp hc with hc | hc
  · exact ha c hc
  · exact hb c hc
theorem low_one {c : Nat} (h : 97 ≤ c ∧ c ≤ 122) : Low ⟨#[c]⟩ := by
  intro d hd
  have hd : d ∈ [c] := hd
  simp at hd
  omega
theorem low_join : ∀ ys : List Str, (∀ y ∈ ys, y.length = 1 ∧ Low y) → (Txt.join "" ys).length = ys.length ∧ Low (Txt.join "" ys)
  | [], _ => ⟨by decide +kernel, fun c hc => by have : tl (Txt.join "" []) = [] := by decide +kernel
                                                rw [this] at hc; simp at hc⟩
  | [x], h => by rw [join1]; exact h x (by simp)
  | x :: y :: l, h => by
    have ih := low_join (y :: l) fun z hz => h z (by simp at hz ⊢; exact .inr hz)
    have hx := h x (by simp)
    rw [TL.join_eq] at ih ⊢
    have e0 : ("" : Str).length = 0 := by decide +kernel
    have le : Low ("" : Str) := fun c hc => by have : tl ("" : Str) = [] := by decide +kernel
                                               rw [this] at hc; simp at hc
    refine ⟨?_, low_append (low_append hx.2 le) ih.2⟩
    show (x ++ "" ++ Str.join "" (y :: l)).length = _
    rw [slen, slen, e0, hx.1, ih.1]
    simp only [List.length_cons]
    omega
theorem letter_at {i : Int} (h : 0 ≤ i ∧ i < 26) : ∃ c, atI letters.cps.toList i = some c ∧ 97 ≤ c ∧ c ≤ 122 := by
  have all : ∀ k : Fin 26, atI letters.cps.toList (k.val : Int) = some (97 + k.val) := by decide +kernel
  obtain ⟨k, rfl⟩ := Int.eq_ofNat_of_zero_le h.1
  exact ⟨_, all ⟨k, by omega⟩, by show 97 ≤ 97 + k; omega, by show 97 + k ≤ 122; omega⟩
def spWords : Sp := fun vs H Q _ => ∃ (b : Addr) (j : Nat), vs = [.ref b, .int 4] ∧ BoxAt H b j ∧ j + 10 ≤ 1000000 ∧
  ∀ (p : Addr) (ws : List Str) (H' : Hp), H p = none → H' p = some (.lst (ws.map V.str)) → ws.length = 4 → (∀ x ∈ ws, NameOk x) → BoxAt H' b (j + 10) → But b H H' → Q (.ref p) H'
def rMod : R2 := rI (fun _ j => 0 < j) fun i j => .int (i % j)
def rMulI : R2 := rI CMul fun i j => .int (i * j)
def rAddI : R2 := rI0 fun i j => .int (i + j)
def rAddS : R2 := fun x y H Q => ∃ i j, x = .str i ∧ y = .str j ∧ i.length + j.length ≤ sizeLine ∧ Q (.str (i ++ j)) H
theorem op_modP {X : Cx} : OpR X (binaryOp .Mod) rMod := op_mod
theorem op_mulI {X : Cx} : OpR X (binaryOp .Mult) rMulI := op_mul
theorem op_addI {X : Cx} : OpR X (binaryOp .Add) rAddI := op_add
theorem op_addS {X : Cx} : OpR X (binaryOp .Add) rAddS := op_add_str
def teLetter : TE := tOp rIxS (tVar 2) (tCall spTake [] E0 (tCons (tVar 0) (tCons (tC (.int 26)) tNil)))
def teName : TE := tOp rAddS (tOp rAddS (tSl rSlS (tVar 5) tNoPart (tPart (tVar 6))) (tOp rIxS (tVar 2) (tOp rMod (tOp rAddI (tVar 3) (tOp rMulI (tVar 4) (tVar 8))) (tC (.int 26))))) (tSl rSlS (tVar 5) (tPart (tVar 6)) tNoPart)
def teIff : TE := tIf (tTest (tOp rEq (tVar 9) (tC (.str "if")))) (tC (.str "iff")) (tVar 9)
section
variable {P : Program} {w : World} {K : PySem.W.Frag} {mg : Str → Option Value} {base : Heap}
theorem scFolded : FnScope ["_law_script", "_law_count", "_law_cells", "_law_k", "_law_cell"] ["_law_script", "_law_count"] (defScope sFolded) := ⟨rfl, rfl, rfl, by decide +kernel, rfl, by decide +kernel, by decide +kernel⟩
theorem ok_folded {f : Addr} {fd : FuncData} (F : Fun K "_law_folded" "_law_folded" sFolded f fd) (mList : mg "list" = none) (mEnum : mg "enumerate" = none) : FnOk P w K mg base CX0 1 f fd ["_law_script", "_law_count"] (spFolded K) := by
  refine F.ok scFolded (fun vs H Q E h => ?_) (fun cdv A outer s H vs Q E hr h => ?_)
  · obtain ⟨a, ns, rfl, _⟩ := h
    rfl
  obtain ⟨a, ns, rfl, hS, hl, q⟩ := h
  refine ⟨_, pss_cons (ps_set (i := 2) scFolded.nd rfl (Or.inl rfl) (pe_callTy call_list_of (by rfl) mList (by decide +kernel) (pa_cons (pe_slice sl_list (pv 0) po_none (po_some (pv 1))) pa_nil)))
    (pss_cons (ps_for PassesOwn.never rfl (pi_enum (by rfl) mEnum (pa_cons (pe_slice sl_list (pv 0) (po_some (pv 1)) (po_some pe_int)) pa_nil)) (pg_tup (by rfl) (pgs_cons (pg_name (i := 3) scFolded.nd rfl (Or.inl rfl)) (pgs_cons (pg_name (i := 4) scFolded.nd rfl (Or.inl rfl)) pgs_nil)))
      (pss_one (ps_asg (pe_op op_addI (pe_ix ix_list (pv 2) (pe_op op_modP (pv 3) (pv 1)) (fun _ _ => rfl)) (pe_op op_mulI (pv 4) (pe_op op_addI (pv 3) pe_int))) (pg_sub (pv 2) (pe_op op_modP (pv 3) (pv 1)) set_list))))
    (pss_one (ps_ret (pe_ifExp (pt_cmpR (op_neD hr.units) (pv 2) (pe_lst pa_nil) (nomark _)) (pv 2) (pe_lst (pa_cons pe_int pa_nil)))))), ?_⟩
  have big : (10000 : Nat) ≤ sizeLine := by decide
  have e1 : cutV (ns.map V.int) none (some 4) = (ns.take 4).map V.int := by rw [show (some 4 : Option Int) = some ((4 : Nat) : Int) from rfl, cut_to, List.map_take]
  obtain ⟨ms, e2, ml⟩ : ∃ ms : List Int, cutV (ns.map V.int) (some 4) (some 63) = ms.map V.int ∧ (ms.length ≤ 63 ∧ (0 < ms.length → 4 ≤ ns.length)) := by
    refine ⟨(ns.drop (min 4 ns.length)).take (min 63 ns.length - min 4 ns.length), ?_, ?_⟩
    · rw [show (some 4 : Option Int) = some ((4 : Nat) : Int) from rfl, show (some 63 : Option Int) = some ((63 : Nat) : Int) from rfl]
      unfold cutV
      rw [HT.sIx_nat, HT.sIx_nat, List.length_map, List.map_take, List.map_drop]
    · rw [List.length_take, List.length_drop]
      omega
  refine ⟨_, rfl, _, rfl, 4, rfl, a, _, rfl, hS, fun p hp => ?_⟩
  rw [e1]
  have s1 := same_new hp (.lst ((ns.take 4).map V.int))
  refine ⟨p, _, rfl, .inl (.inl (.inl upd_same)), fun l hl => ?_⟩
  have s2 := same_new hl (.lst ((ns.take 4).map V.int))
  have s12 := s1.trans s2
  refine ⟨_, rfl, _, rfl, 4, rfl, 63, rfl, a, _, rfl, s12.seq hS, fun g hg => ?_⟩
  rw [e2]
  have s3 := same_new hg (.lst (ms.map V.int))
  have lg : l ≠ g := ne_of_none upd_same hg
  refine ⟨g, _, rfl, .inl (.inl upd_same), for_it walk_enum (fun i σ H3 => ∃ (cs : List Int) (x3 x4 : Option V), σ = [some (.ref a), some (.int 4), some (.ref l), x3, x4] ∧ H3 l = some (.lst (cs.map V.int)) ∧ cs.length = (ns.take 4).length ∧ H3 g = some (.lst (ms.map V.int)) ∧ Same H H3)
    ⟨ns.take 4, _, _, rfl, s3 _ _ upd_same, rfl, upd_same, s12.trans s3⟩ (fun i σ H3 _ ⟨_, _, _, _, _, _, h, _⟩ => .inl (.inl h)) ?_ ?_⟩
  · rintro i x σ H3 H4 hi ⟨cs, x3, x4, rfl, h3l, cl, h3g, s⟩ ⟨T, u, v, rfl, hT, rfl, hu, hv⟩
    obtain rfl := Option.some.inj hu
    rw [List.length_map] at hi
    have four := ml.2 (by omega)
    have m63 := ml.1
    have cl4 : cs.length = 4 := by rw [cl, List.length_take]; omega
    have hv : (ms.map V.int)[i]? = some v := hv
    rw [List.getElem?_map, List.getElem?_eq_getElem hi] at hv
    obtain rfl := Option.some.inj hv
    have sT := same_new hT (.tup [V.int (i : Nat), V.int ms[i]])
    refine ⟨T, _, rfl, .inl (.inl upd_same), rfl, _, _, rfl, _, _, rfl, rfl, ?_⟩
    have m0 : 0 ≤ (i : Int) % 4 ∧ (i : Int) % 4 < 4 := by omega
    have lt : ((i : Int) % 4).toNat < cs.length := by omega
    have hix : ixN (cs.map V.int).length ((i : Int) % 4) = some ((i : Int) % 4).toNat := by rw [List.length_map]; exact ixN_int ⟨m0.1, by omega⟩
    have hat : atI (cs.map V.int) ((i : Int) % 4) = some (V.int cs[((i : Int) % 4).toNat]) := by
      unfold atI
      rw [hix]
      show (cs.map V.int)[((i : Int) % 4).toNat]? = _
      rw [List.getElem?_map, List.getElem?_eq_getElem lt]
      rfl
    refine ⟨_, rfl, _, rfl, _, rfl, _, _, rfl, rfl, (by show (0 : Int) < 4; decide), l, _, _, _, rfl, rfl, .inl (.inl (sT _ _ h3l)), hat, ?_⟩
    refine ⟨_, rfl, _, rfl, _, _, rfl, rfl, _, _, rfl, rfl, .inr ⟨by omega, by omega⟩, _, _, rfl, rfl, ?_⟩
    refine ⟨_, rfl, _, rfl, _, rfl, _, _, rfl, rfl, (by show (0 : Int) < 4; decide), l, _, _, _, rfl, rfl, sT _ _ h3l, hix, ?_⟩
    refine ⟨cs.set ((i : Int) % 4).toNat (cs[((i : Int) % 4).toNat] + ms[i] * ((i : Nat) + 2)), _, _, rfl, ?_, ?_, ?_, ?_⟩
    · rw [upd_same, List.map_set]
    · rw [List.length_set, cl]
    · rw [upd_ne lg.symm]
      exact sT _ _ h3g
    · intro c o z
      have cn : c ≠ l := ne_of_none (s1 _ _ z) hl
      rw [upd_ne cn]
      exact sT _ _ (s _ _ z)
  · rintro σ H3 ⟨cs, x3, x4, rfl, h3l, cl, h3g, s⟩
    have cl4 : cs.length ≤ 4 := by rw [cl, List.length_take]; omega
    have hl0 : H l = none := by
      cases e : H l with
      | none => rfl
      | some u => have := s1 _ _ e; rw [hl] at this; cases this
    refine ⟨_, rfl, (by show 0 ≤ sizeLine; decide), fun b hb => ?_⟩
    have s4 := same_new hb (.lst ([] : List V))
    refine ⟨.list (cs.map .int), .list [], .lst (.inl (.inl (s4 _ _ h3l))) (dp_ints cs), .lst (.inl (.inl upd_same)) .nil, ints_shaped cs, ints_shaped [], !(cs.map PyData.int).isEmpty, congrArg (fun z => V.bl (!z)) eqv_lnil, ?_⟩
    cases cs with
    | nil =>
      refine iteF ⟨(by show 1 ≤ sizeLine; decide), fun c hc => ?_⟩
      have s5 := same_new hc (.lst [V.int 0])
      have hc0 : H c = none := by
        cases e : H c with
        | none => rfl
        | some u => have := s4 _ _ (s _ _ e); rw [hc] at this; cases this
      exact q c [0] _ hc0 upd_same (by decide) (by decide) (s.trans (s4.trans s5))
    | cons c0 cr =>
      exact iteT ⟨_, rfl, q l (c0 :: cr) _ hl0 (s4 _ _ h3l) (by simp) cl4 (s.trans s4)⟩
abbrev NW : List Str := ["_law_box_here", "_law_count", "_law_letters", "_law_begun", "_law_by", "_law_tail", "_law_at", "_law_found", "_law_k", "_law_name"]
theorem scWords : FnScope NW ["_law_box_here", "_law_count"] (defScope sWords) := ⟨rfl, rfl, rfl, by decide +kernel, rfl, by decide +kernel, by decide +kernel⟩
theorem ok_words {f fT : Addr} {fd fdT : FuncData} (F : Fun K "_law_words" "_law_words" sWords f fd) (FT : Fun K "_law_take" "_law_take" sTake fT fdT) (bT : Binds K fdT ["_law_box_here", "_law_top"] []) (mT : mg "_law_take" = some (.ref fT))
    (mRange : mg "range" = none) (mLen : mg "len" = none) : FnOk P w K mg base CX0 2 f fd ["_law_box_here", "_law_count"] spWords := by
  have GT : FnOk P w K mg base CX0 1 fT fdT ["_law_box_here", "_law_top"] spTake := ok_take FT
  refine F.ok scWords (fun vs H Q E h => ?_) (fun cdv A outer s H vs Q E hr h => ?_)
  · obtain ⟨b, j, rfl, _⟩ := h
    rfl
  obtain ⟨b, j, rfl, B, hj, q⟩ := h
  refine ⟨_, pss_cons (ps_asg (pe_tup (pa_cons pe_str (pa_cons (pe_call GT hr (by rfl) mT FT.kp bT .nil pass0 (pa_cons (pv 0) (pa_cons pe_int pa_nil))) (pa_cons (pe_ix ix_list (pe_lst (pa_cons pe_int (pa_cons pe_int (pa_cons pe_int (pa_cons pe_int pa_nil))))) (pe_call GT hr (by rfl) mT FT.kp bT .nil pass0 (pa_cons (pv 0) (pa_cons pe_int pa_nil))) (fun _ _ => rfl)) pa_nil))))
      (pg_tup (by rfl) (pgs_cons (pg_name (i := 2) scWords.nd rfl (Or.inr rfl)) (pgs_cons (pg_name (i := 3) scWords.nd rfl (Or.inr rfl)) (pgs_cons (pg_name (i := 4) scWords.nd rfl (Or.inr rfl)) pgs_nil)))))
    (pss_cons (ps_set (i := 5) scWords.nd rfl (Or.inr rfl) (pe_bm PySem.F.plainAttrs_str PySem.F.slot_str_join PySem.F.type_str_join mt_join pe_str (pa_cons
      (pe_lc (own := [("_law_k", 8)]) (g := gName 8) (tt := tYes) (te := teLetter) rfl scWords.nd (pi_range1 (by rfl) mRange (pa_cons (pe_ix ix_list (pe_lst (pa_cons pe_int (pa_cons pe_int (pa_cons pe_int (pa_cons pe_int (pa_cons pe_int pa_nil)))))) (pe_call GT hr (by rfl) mT FT.kp bT .nil pass0 (pa_cons (pv 0) (pa_cons pe_int pa_nil))) (fun _ _ => rfl)) pa_nil))
        (blkOk_by (N := NW) (sc := defScope sWords) (by decide +kernel)) (fun _ _ _ _ _ => pg_name (i := 8) scWords.nd rfl (Or.inl rfl)) (fun _ _ _ _ _ => pts_nil)
        (fun _ _ _ _ _ => pe_ix ix_str (pv 2) (pe_call GT hr (by rfl) mT FT.kp bT .nil pass0 (pa_cons (pv 0) (pa_cons pe_int pa_nil))) (fun _ _ => rfl))) pa_nil)))
    (pss_cons (ps_set (i := 6) scWords.nd rfl (Or.inr rfl) (pe_call GT hr (by rfl) mT FT.kp bT .nil pass0 (pa_cons (pv 0) (pa_cons (pe_op op_addI (pe_callB call_len_str (by rfl) mLen PySem.boot_len (pa_cons (pv 5) pa_nil)) pe_int) pa_nil))))
    (pss_cons (ps_setLc (i := 7) (own := [("_law_k", 8)]) (g := gName 8) (tt := tYes) (te := teName) rfl scWords.nd rfl rfl (by rfl) (pi_range1 (by rfl) mRange (pa_cons (pv 1) pa_nil))
        (blkOk_by (N := NW) (sc := defScope sWords) (by decide +kernel)) (fun _ _ _ _ _ => pg_name (i := 8) scWords.nd rfl (Or.inl rfl)) (fun _ _ _ _ _ => pts_nil)
        (fun _ _ _ _ _ => pe_op op_addS (pe_op op_addS (pe_slice sl_str (pv 5) po_none (po_some (pv 6))) (pe_ix ix_str (pv 2) (pe_op op_modP (pe_op op_addI (pv 3) (pe_op op_mulI (pv 4) (pv 8))) pe_int) (fun _ _ => rfl))) (pe_slice sl_str (pv 5) (po_some (pv 6)) po_none)))
    (pss_one (ps_ret (pe_lc (own := [("_law_name", 9)]) (g := gName 9) (tt := tYes) (te := teIff) rfl scWords.nd (pi_list (pv 7))
        (blkOk_by (N := NW) (sc := defScope sWords) (by decide +kernel)) (fun _ _ _ _ _ => pg_name (i := 9) scWords.nd rfl (Or.inl rfl)) (fun _ _ _ _ _ => pts_nil)
        (fun _ _ _ _ _ => pe_ifExp (pt_cmpR op_eq (pv 9) pe_str (nomark _)) pe_str (pv 9)))))))), ?_⟩
  have big : (10000 : Nat) ≤ sizeLine := by decide
  have l0 : ("" : Str).length = 0 := by decide +kernel
  have ll : letters.length = 26 := by decide +kernel
  refine ⟨_, rfl, b, _, j, rfl, B, by omega, by decide, by decide, fun r1 H1 a0 a1 B1 o1 => ?_⟩
  refine ⟨(by show 4 ≤ sizeLine; decide), fun d hd => ?_⟩
  have s2 := same_new hd (.lst [V.int 1, V.int 3, V.int 7, V.int 25])
  refine ⟨_, rfl, b, _, _, rfl, B1.same s2, by omega, by decide, by decide, fun r2 H3 b0 b1 B3 o3 => ?_⟩
  obtain ⟨y1, hb1⟩ := B1.some
  have db : d ≠ b := (ne_of_none hb1 hd).symm
  have hd3 := o3 _ _ upd_same db
  obtain ⟨by_, hat, hby⟩ : ∃ n : Int, atI [V.int 1, V.int 3, V.int 7, V.int 25] r2 = some (.int n) ∧ 1 ≤ n ∧ n ≤ 25 := by
    rcases (by omega : r2 = 0 ∨ r2 = 1 ∨ r2 = 2 ∨ r2 = 3) with e | e | e | e <;> subst e
    · exact ⟨_, at_of (j := 0) rfl rfl, by omega, by omega⟩
    · exact ⟨_, at_of (j := 1) rfl rfl, by omega, by omega⟩
    · exact ⟨_, at_of (j := 2) rfl rfl, by omega, by omega⟩
    · exact ⟨_, at_of (j := 3) rfl rfl, by omega, by omega⟩
  refine ⟨d, _, _, _, rfl, rfl, .inl (.inl hd3), hat, (by show 3 ≤ sizeLine; decide), fun t ht => ?_⟩
  have s4 := same_new ht (.tup [V.str letters, V.int r1, V.int by_])
  refine ⟨t, _, rfl, .inl (.inl upd_same), rfl, _, _, rfl, _, _, rfl, _, _, rfl, rfl, ?_⟩
  refine ⟨rfl, (by show 5 ≤ sizeLine; decide), fun e he => ?_⟩
  have s5 := same_new he (.lst [V.int 0, V.int 1, V.int 2, V.int 3, V.int 5])
  have B5 := (B3.same s4).same s5
  obtain ⟨y3, hb3⟩ := (B3.same s4).some
  have eb : e ≠ b := (ne_of_none hb3 he).symm
  refine ⟨_, rfl, b, _, _, rfl, B5, by omega, by decide, by decide, fun r3 H6 c0 c1 B6 o6 => ?_⟩
  have he6 := o6 _ _ upd_same eb
  obtain ⟨m3, hat3, hm3⟩ : ∃ n : Int, atI [V.int 0, V.int 1, V.int 2, V.int 3, V.int 5] r3 = some (.int n) ∧ 0 ≤ n ∧ n ≤ 5 := by
    rcases (by omega : r3 = 0 ∨ r3 = 1 ∨ r3 = 2 ∨ r3 = 3 ∨ r3 = 4) with e | e | e | e | e <;> subst e
    · exact ⟨_, at_of (j := 0) rfl rfl, by omega, by omega⟩
    · exact ⟨_, at_of (j := 1) rfl rfl, by omega, by omega⟩
    · exact ⟨_, at_of (j := 2) rfl rfl, by omega, by omega⟩
    · exact ⟨_, at_of (j := 3) rfl rfl, by omega, by omega⟩
    · exact ⟨_, at_of (j := 4) rfl rfl, by omega, by omega⟩
  have o06 : But b H H6 := o1.trans ((but_of s2).trans (o3.trans ((but_of s4).trans ((but_of s5).trans o6))))
  refine ⟨e, _, _, _, rfl, rfl, .inl (.inl he6), hat3, _, rfl, by omega, by omega, fun D hD => lc_range (lo := 0) (fun i H7 => ∃ ys : List Str, H7 D = some (.lst (ys.map V.str)) ∧ ys.length = i ∧ (∀ y ∈ ys, y.length = 1 ∧ Low y) ∧ BoxAt H7 b (j + 3 + i) ∧ But b H H7)
    ⟨[], upd_same, rfl, by simp, (B6.same (same_new hD _)).more (by omega), o06.trans (but_of (same_new hD _))⟩ ?_ ?_⟩
  · rintro i H7 hi ⟨ys, h7, yl, yo, B7, o7⟩
    have Db : D ≠ b := by
      obtain ⟨y6, hb6⟩ := B6.some
      exact (ne_of_none hb6 hD).symm
    refine ⟨rfl, ?_⟩
    unfold teLetter
    refine ⟨_, rfl, _, rfl, b, _, _, rfl, B7, by omega, by decide, by decide, fun r H8 d0 d1 B8 o8 => ?_⟩
    obtain ⟨c, hc, cl⟩ := letter_at ⟨d0, d1⟩
    refine ⟨letters, _, c, rfl, rfl, by omega, hc, ys.map V.str, o8 _ _ h7 Db, by rw [List.length_map]; omega, ys ++ [⟨#[c]⟩], ?_, by simp [yl], ?_, (B8.upd Db _).more (by omega), ?_⟩
    · rw [upd_same, List.map_append]; rfl
    · intro y hy
      rcases List.mem_append.mp hy with hy | hy
      · exact yo y hy
      · obtain rfl : y = ⟨#[c]⟩ := by simpa using hy
        exact ⟨rfl, low_one cl⟩
    · intro x o z nb
      have xD : x ≠ D := ne_of_none z (but_none o06 B6 hD)
      rw [upd_ne xD]
      exact o8 _ _ (o7 _ _ z nb) nb
  · rintro H7 ⟨ys, h7, yl, yo, B7, o7⟩
    obtain ⟨jl, jw⟩ := low_join ys yo
    have sum1 : ∀ zs : List Str, (∀ y ∈ zs, y.length = 1 ∧ Low y) → (zs.map (·.length)).sum = zs.length := by
      intro zs
      induction zs with
      | nil => intro _; rfl
      | cons z zs ih =>
        intro h
        rw [List.map_cons, List.sum_cons, ih fun y hy => h y (by simp [hy]), (h z (by simp)).1, List.length_cons]
        omega
    refine ⟨"", D, ys, rfl, rfl, .inl (.inl (.inl h7)), by rw [l0, sum1 ys yo]; omega, ?_⟩
    generalize Txt.join "" ys = tail at jl jw
    have tl5 : tail.length ≤ 5 := by omega
    refine ⟨_, rfl, _, rfl, tail, rfl, by omega, _, _, rfl, rfl, b, _, _, rfl, B7, by omega, by omega, by omega, fun r8 H8 e0 e1 B8 o8 => ?_⟩
    obtain ⟨k, rfl⟩ := Int.eq_ofNat_of_zero_le e0
    obtain ⟨p1, p2⟩ := cutS_parts (z := tail) (k := k) (by omega)
    have w1 := low_cut jw none (some (k : Int))
    have w2 := low_cut jw (some (k : Int)) none
    have o08 := o7.trans o8
    refine ⟨_, rfl, _, rfl, by decide, by decide, fun D2 hD2 => lc_range (lo := 0) (fun i H9 => ∃ ws : List Str, H9 D2 = some (.lst (ws.map V.str)) ∧ ws.length = i ∧ (∀ x ∈ ws, 1 ≤ x.length ∧ x.length ≤ 6 ∧ Low x) ∧ Same H8 H9) ⟨[], upd_same, rfl, by simp, same_new hD2 _⟩ ?_ ?_⟩
    · rintro i H9 hi ⟨ws, h9, wl, wo, s9⟩
      refine ⟨rfl, ?_⟩
      unfold teName
      have i4 : i < 4 := hi
      obtain ⟨c, hc, cl⟩ := letter_at (i := (r1 + by_ * (0 + (i : Int))) % 26) (by omega)
      have one : (⟨#[c]⟩ : Str).length = 1 := rfl
      refine ⟨_, rfl, _, rfl, (k : Int), rfl, tail, rfl, by omega, ?_⟩
      refine ⟨_, rfl, _, rfl, _, rfl, _, rfl, _, _, rfl, rfl, .inl ⟨by omega, by omega⟩, _, _, rfl, rfl, _, _, rfl, rfl, (by show (0 : Int) < 26; decide), letters, _, c, rfl, rfl, by omega, hc, ?_⟩
      refine ⟨_, _, rfl, rfl, by rw [p1, one]; omega, ?_⟩
      refine ⟨_, rfl, _, rfl, (k : Int), rfl, tail, rfl, by omega, ?_⟩
      refine ⟨_, _, rfl, rfl, by rw [slen, p1, p2, one]; omega, ?_⟩
      refine ⟨ws.map V.str, h9, by rw [List.length_map]; omega, ws ++ [cutS tail none (some (k : Int)) ++ ⟨#[c]⟩ ++ cutS tail (some (k : Int)) none], by rw [upd_same, List.map_append]; rfl, by simp [wl], ?_, ?_⟩
      · intro x hx
        rcases List.mem_append.mp hx with hx | hx
        · exact wo x hx
        · obtain rfl : x = _ := List.mem_singleton.mp hx
          refine ⟨?_, ?_, low_append (low_append w1 (low_one cl)) w2⟩
          · rw [slen, slen, p1, p2, one]; omega
          · rw [slen, slen, p1, p2, one]; omega
      · intro x o z
        rw [upd_ne (ne_of_none z hD2)]
        exact s9 _ _ z
    · rintro H9 ⟨ws, h9, wl, wo, s9⟩
      have wl4 : ws.length = 4 := wl
      refine ⟨_, rfl, D2, rfl, ⟨_, .inl (.inl h9)⟩, fun D3 hD3 => lc_list (K := K) (a := D2) (xs := ws.map V.str) (fun i H10 => H10 D3 = some (.lst (((ws.take i).map fun x : Str => if x = ("if" : Str) then ("iff" : Str) else x).map V.str)) ∧ Same H9 H10) ⟨upd_same, same_new hD3 _⟩ (fun i H10 _ h => .inl (.inl (h.2 _ _ h9))) ?_ ?_⟩
      · rintro i x H10 hi ⟨h10, s10⟩
        rw [List.getElem?_map] at hi
        obtain ⟨y, hy, rfl⟩ : ∃ y, ws[i]? = some y ∧ x = .str y := by
          cases hq : ws[i]? with
          | none => rw [hq] at hi; cases hi
          | some p => rw [hq] at hi; exact ⟨p, rfl, by simpa using hi.symm⟩
        have tk : ws.take (i + 1) = ws.take i ++ [y] := by rw [List.take_add_one, hy]; rfl
        refine ⟨rfl, ?_⟩
        unfold teIff
        have fin : ∀ z : Str, z = (if y = ("if" : Str) then ("iff" : Str) else y) → ∃ acc, H10 D3 = some (.lst acc) ∧ acc.length < sizeLine ∧ (upd H10 D3 (.lst (acc ++ [V.str z]))) D3 = some (.lst (((ws.take (i + 1)).map fun x : Str => if x = ("if" : Str) then ("iff" : Str) else x).map V.str)) ∧ Same H9 (upd H10 D3 (.lst (acc ++ [V.str z]))) := by
          rintro z rfl
          refine ⟨_, h10, ?_, ?_, ?_⟩
          · rw [List.length_map, List.length_map, List.length_take]; omega
          · rw [upd_same, tk, List.map_append, List.map_append]; rfl
          · intro x o z
            rw [upd_ne (ne_of_none z hD3)]
            exact s10 _ _ z
        by_cases hif : y = ("if" : Str)
        · exact ⟨_, rfl, rfl, true, congrArg V.bl (decide_eq_true (by rw [hif])), iteT (fin _ (if_pos hif).symm)⟩
        · exact ⟨_, rfl, rfl, false, congrArg V.bl (decide_eq_false fun z => hif (V.str.inj z)), iteF ⟨_, rfl, fin _ (if_neg hif).symm⟩⟩
      · rintro H10 ⟨h10, s10⟩
        rw [List.length_map, List.take_length] at h10
        have o09 : But b H H9 := o08.trans (but_of s9)
        refine q D3 _ H10 (but_none o09 (B8.same s9) hD3) h10 (by rw [List.length_map, wl4]) ?_ (((B8.same s9).same s10).more (by omega)) (o09.trans (but_of s10))
        intro x hx
        obtain ⟨y, hy, rfl⟩ := List.mem_map.mp hx
        by_cases hif : y = ("if" : Str)
        · rw [if_pos hif]
          exact ⟨by decide +kernel, by decide +kernel, by decide +kernel, by decide +kernel⟩
        · rw [if_neg hif]
          obtain ⟨g1, g2, g3⟩ := wo y hy
          exact ⟨g1, g2, g3, hif⟩
end
end Rp

/-! Tuples that are known to be plain (they bear no dict of their own), made by tuple(list) and by a display; dict(t) of such a tuple of pairs. -/
namespace Rp
open PySem PySem.Spec PyProof.Rows L2
/-- a plain tuple stands at a -/
def PlT (H : Hp) (a : Addr) (xs : List V) : Prop := ∃ o : Obj, o.dict = none ∧ H a = some (.frz o (.tup xs))
theorem PlT.sq {K : PySem.W.Frag} {H : Hp} {a : Addr} {xs : List V} (h : PlT H a xs) : SqT K H a xs := let ⟨o, _, e⟩ := h; .inl (.inr ⟨o, e⟩)
theorem PlT.same {H H' : Hp} {a : Addr} {xs : List V} (e : Same H H') (h : PlT H a xs) : PlT H' a xs := let ⟨o, d, q⟩ := h; ⟨o, d, e _ _ q⟩
theorem PlT.mono {H H' : Hp} {a : Addr} {xs : List V} (e : ∀ o, H a = some (.frz o (.tup xs)) → H' a = some (.frz o (.tup xs))) (h : PlT H a xs) : PlT H' a xs := let ⟨o, d, q⟩ := h; ⟨o, d, e _ q⟩
section
variable {X : Cx}
def rTupF (K : PySem.W.Frag) : List V → Hp → VK → Prop := fun vs H Q => ∃ (p : Addr) (ys : List V), vs = [.ref p] ∧ SqL K H p ys ∧ ∀ (l : Addr) (o : Obj), o.dict = none → H l = none → Q (.ref l) (upd H l (.frz o (.tup ys)))
theorem cr_tupF : CallR X (.type "tuple") (rTupF X.K) := by
  intro pins s σ H vs us Q I r h
  obtain ⟨p, ys, rfl, hq, q⟩ := h
  rw [Vals.ref1 r]
  obtain ⟨its, rv, pl, hz⟩ := I.list hq
  have few := rv.length
  refine call_tuple_list pl.isList (fun g old => ?_) (by simp only [List.size_toArray] <;> omega)
  have J : Inv X pins σ H { s with heap := g } := I.kept (t' := s.toks) old
  have there : (g.push { cls := .type "tuple", data := .seq its.toArray }).get? g.objs.size = some { cls := .type "tuple", data := .seq its.toArray } := Heap.get?_push_size _ rfl
  exact ⟨.ref g.objs.size, _, J.laid (t' := s.toks) (o := .frz { cls := .type "tuple", data := .seq its.toArray } (.tup ys)) (fun b o e => Heap.get?_push_of_some _ e) (Nat.le_refl _) ⟨there, hz, its, rv, IsTup.new _ _⟩, rfl,
    q _ _ rfl (J.hok.fresh (Nat.le_refl _))⟩
/-- (e, ..), told to be plain -/
def tTupF (t : TA) : TE := fun σ H Q => t σ H fun xs H1 => xs.length ≤ sizeLine ∧ ∀ (p : Addr) (o : Obj), o.dict = none → H1 p = none → Q (.ref p) (upd H1 p (.frz o (.tup xs)))
theorem pe_tupF {es : List Expr} {t : TA} {x1 : Nat} {pos : Pos} (h : PA X es t) : PE X (.Tuple es x1 pos) (tTupF t) := by
  refine ⟨fun pins s σ H Q I hq => wpAny_Tuple_spliced (thn (h.run pos pins s σ H _ I hq) fun us s1 ⟨xs, H1, I1, r, z, q⟩ => ⟨by rw [← r.length]; exact z, ?_⟩)⟩
  have at_ : (s1.heap.push { cls := .type "tuple", data := .seq us.toArray }).get? s1.heap.objs.size = some { cls := .type "tuple", data := .seq us.toArray } := Heap.get?_push_size _ rfl
  exact ⟨.ref s1.heap.objs.size, _, I1.laid (t' := s1.toks) (o := .frz { cls := .type "tuple", data := .seq us.toArray } (.tup xs)) (fun b u e => Heap.get?_push_of_some _ e) (Nat.le_refl _) ⟨at_, z, us, r, ⟨_, at_, rfl, _, rfl⟩⟩, rfl,
    q _ _ rfl (I1.hok.fresh (Nat.le_refl _))⟩
theorem raw_pairs {pins : List (Addr × Obj)} {σ : L2.St} {H : Hp} {s : Shared} (I : Inv X pins σ H s) : ∀ {ps : List Addr} {kvs : List (Key × V)}, Paired (fun p (kv : Key × V) => SqT X.K H p [kV kv.1, kv.2]) ps kvs →
    ∃ (prs : List (Key × Value)) (raw : List (Value × Value)), KV kvs prs ∧ raw.length = ps.length ∧ prs.length = ps.length ∧ ∀ j : Nat, j < ps.length → ∃ (b : Addr) (k : Key) (u x : Value), ps[j]? = some b ∧ prs[j]? = some (k, x) ∧ raw[j]? = some (u, x) ∧ IsTup s.heap b #[u, x] ∧ keyIs k u = true
  | _, _, .nil => ⟨[], [], .nil, rfl, rfl, fun j h => absurd h (Nat.not_lt_zero _)⟩
  | _, _, .cons (a := p) (b := kv) h t => by
    obtain ⟨prs, raw, r, l1, l2, each⟩ := raw_pairs I t
    obtain ⟨its, rv, ht, _⟩ := I.tuple h
    obtain ⟨u, y, rfl, ru, ry⟩ := vals2 rv
    refine ⟨(kv.1, y) :: prs, (u, y) :: raw, .cons ⟨rfl, ry⟩ r, congrArg (· + 1) l1, congrArg (· + 1) l2, fun j hj => ?_⟩
    cases j with
    | zero => exact ⟨p, kv.1, u, y, rfl, rfl, rfl, ht, kV_is (P := X.prog) (w := X.w) ru⟩
    | succ j => exact each j (Nat.lt_of_succ_lt_succ hj)
def rDictT (K : PySem.W.Frag) : List V → Hp → VK → Prop := fun vs H Q => ∃ (a : Addr) (ps : List Addr) (kvs : List (Key × V)), vs = [.ref a] ∧ PlT H a (ps.map V.ref) ∧ Paired (fun p (kv : Key × V) => SqT K H p [kV kv.1, kv.2]) ps kvs ∧
  ∀ p, H p = none → Q (.ref p) (upd H p (.dK (mergeK [] kvs)))
theorem cr_dictT (calm : X.calm = true) : CallR X (.type "dict") (rDictT X.K) := by
  intro pins s σ H vs us Q I r told
  obtain ⟨a, ps, kvs, rfl, ⟨o, od, ha⟩, pairs, go⟩ := told
  rw [Vals.ref1 r]
  obtain ⟨ho, hz, its, rv, oo, ho', hc, n, hd⟩ := (show ObjOk X.prog X.w H s.heap a (.frz o (.tup (ps.map V.ref))) from I.hok a _ ha)
  obtain rfl : o = oo := Option.some.inj (ho.symm.trans ho')
  have ei := refs_at rv
  subst ei
  obtain ⟨prs, raw, rel, l1, l2, each⟩ := raw_pairs I pairs
  rw [List.length_map] at hz
  have items : PairItems s.heap (ps.map Value.ref).toArray (fun j => ps.getD j 0) raw := by
    refine ⟨by simp [l1], fun j k v e => ?_⟩
    have lj : j < ps.length := by rw [← l1]; exact (List.getElem?_eq_some_iff.mp e).1
    obtain ⟨b, k', u, x, e1, e2, e3, e4, e5⟩ := each j lj
    obtain ⟨rfl, rfl⟩ : k = u ∧ v = x := by rw [e] at e3; cases e3; exact ⟨rfl, rfl⟩
    have gd : ps.getD j 0 = b := by rw [List.getD_eq_getElem?_getD, e1]; rfl
    refine ⟨by simp [e1, gd], .inl ?_⟩
    show s.heap.IsTuple (ps.getD j 0) #[k, v]
    rw [gd]
    exact e4
  refine PySem.call_dict_pairs (knd := mixKind X.prog X.w) (kvs := prs) (PairArg.tuple a _ _ raw) (I.ok.hd calm) ⟨⟨o, n, ho, hc, od, hd⟩, items⟩ ?_ (by omega) fun g tk now old => ?_
  · refine ⟨by omega, fun j k v e => ?_⟩
    have lj : j < ps.length := by rw [← l1]; exact (List.getElem?_eq_some_iff.mp (show raw[j]? = some (k, v) from e)).1
    obtain ⟨b, k', u, x, e1, e2, e3, e4, e5⟩ := each j lj
    obtain ⟨rfl, rfl⟩ : k = u ∧ v = x := by
      have e : raw[j]? = some (k, v) := e
      rw [e] at e3; cases e3; exact ⟨rfl, rfl⟩
    exact ⟨k', e2, e5⟩
  · have hm : (s.heap.objs.size == sysModules) = false := beq_eq_false_iff_ne.mpr (Nat.ne_of_gt I.big)
    have len : (mergeK [] kvs).length ≤ sizeLine := by
      have q := length_mergeK kvs []
      have z := rel.length
      rw [List.length_nil] at q
      omega
    exact ⟨.ref s.heap.objs.size, _, I.laid (t' := tk) (o := .dK (mergeK [] kvs)) (fun b u e => old b u (by simp) e) (Nat.le_refl _) ⟨len, hm, merged [] prs, KV.merge rel .nil, now⟩, rfl, go _ (I.hok.fresh (Nat.le_refl _))⟩
end
end Rp

/-! A def within a def, handed to another def and called there: what its cells hold is known where that def is called, and stays so while it runs. -/
namespace Rp
open PySem PySem.Spec PyProof.Rows L2 NdefX LamX
/-- what the cells of Fn hold, and that they are no caller's frame -/
def Held1 (cl : List (Str × Addr)) (fr : List Str) (ws : List (Option V)) (outer : List Env) (s : Shared) (H : Hp) : Prop := CellsAt cl fr ws s.heap H ∧ ∀ y c, cl.lookup y = some c → c ∉ frs outer
/-- a def's promise, kept where R is known of the caller's state -/
structure QnOk (P : Program) (w : World) (K : PySem.W.Frag) (mg : Str → Option Value) (base : Heap) (k : Nat) (f : Addr) (fd : FuncData) (ps : List Str) (R : List Env → Shared → Hp → Prop) (sp : Sp) : Prop where
  len : ∀ vs H Q E, sp vs H Q E → vs.length = ps.length
  run : ∀ (A : Around) (outer : List Env) (s : Shared) (H : Hp) (args : Args) (us : List Value) (vs : List V) (Q : VK) (E : XK), R outer s H → Room k A → Env0 P w K mg base A outer s H → BindsTo s fd args (ps.zip us) → Vals vs us → sp vs H Q E →
    codeAny (model P w) A (.call (.ref f) args) (CR CX0 outer P w H s Q E) s
section
variable {P : Program} {w : World} {K : PySem.W.Frag} {mg : Str → Option Value} {base : Heap}
/-- a def by its body, R told of the caller's state -/
theorem qok {x qual : Str} {st : Stmt} {f : Addr} {fd : FuncData} {N ps : List Str} {k : Nat} {R : List Env → Shared → Hp → Prop} {sp : Sp} (F : Fun K x qual st f fd) (S : FnScope N ps (defScope st)) (len : ∀ vs H Q E, sp vs H Q E → vs.length = ps.length)
    (walk : ∀ (cdv : Value) (A : Around) (outer : List Env) (s : Shared) (H : Hp) (vs : List V) (Q : VK) (E : XK), R outer s H → Room k (A.deeper (envOfC qual (defScope st) s.heap.objs.size f cdv)) → sp vs H Q E →
      ∃ t, PSs (cxOf CX0 P w K mg base N qual (defScope st) f cdv A outer s H E).nox (defBody st) t ∧ t { nx := fun _ H' => Q .non H', rt := Q } (start N vs) H) : QnOk P w K mg base (k + 1) f fd ps R sp := by
  obtain ⟨oc, od, kV, doc, pm, an, cdv, ct, osl, rfl, lk, hcd⟩ := F.ex
  refine ⟨len, fun A outer s H args us vs Q E hR hr e0 hb r hsp => ?_⟩
  have K0 : K.In s.heap := e0.mod.kin.keeps fun b o e => (e0.bs b o e).1
  have L0 : s.heap.NoLimit := e0.mod.nolimit.keeps fun b o e => (e0.bs b o e).1
  have each : ∀ y ∈ ps.zip us, (defScope st).names.lookup y.1 = some .local ∨ ((defScope st).names.lookup y.1 = some .cell ∧ ((cellsFrom (s.heap.objs.size + 1) (defScope st).names []).lookup y.1).isSome = true) := by
    rintro ⟨n, v⟩ hy
    exact (S.par n (List.of_mem_zip hy).1).imp id fun q => ⟨q, PySem.W.cellsFrom_some _ _ _ (.inl q)⟩
  refine codeAny_call_function hr.depth (K0 _ _ lk) rfl S.co S.gen rfl (PySem.W.codeRec_of K0 hcd) (hb _ _ _ _ (wpAny_newFunctionEnv_cells S.kind each fun env he s1 z => ?_))
  subst he
  refine ⟨L0.keeps z.toInCall.keep, codeAny_func ?_⟩
  obtain ⟨t, ht, hq⟩ := walk cdv A outer s H vs Q E hR (hr.deeper _) hsp
  have I : L2.Inv (cxOf CX0 P w K mg base N qual (defScope st) f cdv A outer s H E) [] (start N vs) H s1 := inv_start S hr.hd e0 (len _ _ _ _ hsp) r z
  refine wpAny_mono (ht.nox.run [] s1 (start N vs) H _ I hq) (fun fl s' hs => ?_) fun e s' hs => hs
  rcases fl with _ | _ | _ | u
  · obtain ⟨_, H', J, q⟩ := hs
    exact ⟨V.non, H', J.os, J.bare, J.base, J.hok, rfl, q⟩
  · exact hs.choose_spec.choose_spec.2.elim
  · exact hs.choose_spec.choose_spec.2.elim
  · obtain ⟨v, _, H', J, rv, q⟩ := hs
    exact ⟨v, H', J.os, J.bare, J.base, J.hok, rv, q⟩
end
section
variable {X : Cx} {k j i : Nat} {f : Addr} {fd : FuncData} {ps fr : List Str} {E : XK} {x : Str} {p pos : Pos} {e : Expr} {es : List Expr} {t : TA} {cl : List (Str × Addr)} {js : List Nat}
/-- a cell of the running frame is no caller's frame -/
theorem cells_apart {pins : List (Addr × Obj)} {σ : L2.St} {H : Hp} {s : Shared} (I : L2.Inv X pins σ H s) (stk : X.stack = X.env :: X.outer ∧ X.env.frame = some X.env.locals) (fn : ∀ y, X.fn y = true) (low : ∀ b ∈ frs X.outer, b < X.s_0.heap.objs.size) {y : Str} {c : Addr} (hc : X.env.cells.lookup y = some c) : c ∉ frs X.stack := by
  intro hm
  rw [stk.1] at hm
  have hm : c ∈ (X.env :: X.outer).filterMap (·.frame) := hm
  rw [List.filterMap_cons, stk.2] at hm
  rcases List.mem_cons.mp hm with e | hm
  · obtain ⟨m, ⟨o, es, ep, h1, h2, _⟩, _⟩ := I.loc
    obtain ⟨v, o', h1', h2'⟩ := I.cell y c hc
    rw [e, h1] at h1'
    cases h1'
    rw [h2] at h2'
    cases h2'
  · have a := low c hm
    have b := I.ok.cab y c (fn y) hc
    exact absurd a (Nat.not_lt.mpr b)
theorem low_frames {h base : Heap} {l : List Env} (hf : Heap.FunFrames h base l) : ∀ b ∈ frs l, b < h.objs.size := fun b hb => by
  obtain ⟨_, o, ho, _⟩ := hf.mem hb
  exact Heap.lt_size ho
/-- f(e, ..), f a def of the module that wants to know what a handed def's cells hold -/
def tCallQ (sp : Addr → Addr → List (Option V) → Sp) (js : List Nat) (E : XK) (t : TA) : TE := fun σ H Q => t σ H fun vs H1 => ∃ g c', sp g c' (js.map (slotAt σ)) vs H1 Q E
theorem pe_callQ {sp : Addr → Addr → List (Option V) → Sp} (F : ∀ g c' ws, QnOk X.prog X.w X.K X.mg X.base k f fd ps (Held1 cl fr ws) (sp g c' ws)) (cp : X.Ok → Caps X cl fr js) (stk : X.stack = X.env :: X.outer ∧ X.env.frame = some X.env.locals) (fn : ∀ y, X.fn y = true)
    (hr : Room k X.A) (hg : Gl X x) (hm : X.mg x = some (.ref f)) (hk : PySem.W.keepIn X.K (.ref f) = true) (hb : Binds X.K fd ps []) (ha : PA X (e :: es) t)
    (hdb : (x == ("__debug__" : Str)) = false := by decide) (he : starEach (e :: es) X.env = (false, eval e X.env) :: starEach es X.env := by rfl) (hpl : (backTo pos (starEach es X.env)).any (·.1) = false := by rfl) :
    PE X (.Call (.Name x p) (e :: es) [] pos) (tCallQ sp js E0 t) := by
  refine ⟨fun pins s σ H Q I h => wpAny_Call_Name_kw (ld_glob I hg hm ?_ hdb)⟩
  refine PySem.W.callWith_K (h₀ := X.base) I.ok.mod.kin hk (thn (ha.run pos pins s σ H _ I h) fun us s1 ⟨vs, H1, I1, r, g, c', q⟩ => ⟨I1.kIn, ?_⟩) he hpl
  have hl : us.length = ps.length := r.length.symm.trans ((F g c' _).len _ _ _ _ q)
  have hb' := hb s1 us I1.kIn (by rw [List.append_nil]; exact hl)
  rw [List.append_nil] at hb'
  have held : Held1 cl fr (js.map (slotAt σ)) X.stack s1 H1 := ⟨cells_of I1 (cp I1.ok), fun y c hc => cells_apart I1 stk fn (low_frames I1.ok.funs) ((cp I1.ok).sub y c hc)⟩
  refine wpAny_call (codeAny_mono ((F g c' _).run X.A X.stack s1 H1 ⟨us, []⟩ us vs Q E0 held hr I1.env0 hb' r q) fun r' s' hq => ?_)
  rcases r' with e' | fl
  · exact hq.elim
  · rcases fl with _ | _ | _ | u
    · exact hq.elim
    · exact hq.elim
    · exact hq.elim
    · exact I1.after hq
/-- f(e, ..), f a local name that holds a handed def; what its cells hold was known at this def's own start -/
def tCallV (i : Nat) (g : Addr) (Fn : NF) (ws : List (Option V)) (sp : List (Option V) → Sp) (E : XK) (t : TA) : TE := fun σ H Q => σ[i]? = some (some (.ref g)) ∧ H g = some (FnO g Fn) ∧ t σ H fun vs H1 => H1 g = some (FnO g Fn) ∧ H1 Fn.c = some (CodeO Fn.c Fn.qual) ∧ sp ws vs H1 Q E
theorem pe_callV {Fn : NF} {g : Addr} {ws : List (Option V)} {sp : List (Option V) → Sp} (N : NOk X.prog X.w X.K X.mg X.base CX0 k g Fn ps fr sp) (held : Held1 Fn.cl fr ws X.outer X.s_0 X.H_0) (exn : X.ex = []) (hr : Room k X.A) (hN : X.N[i]? = some x) (hv : Vis X.env.scope x) (ha : PA X (e :: es) t)
    (hd : (x == ("__debug__" : Str)) = false := by decide) (hcd : (x == ("__classdict__" : Str)) = false := by decide)
    (he : starEach (e :: es) X.env = (false, eval e X.env) :: starEach es X.env := by rfl) (hpl : (backTo pos (starEach es X.env)).any (·.1) = false := by rfl) : PE X (.Call (.Name x p) (e :: es) [] pos) (tCallV i g Fn ws sp E0 t) := by
  refine ⟨fun pins s σ H Q I h => ?_⟩
  obtain ⟨hs, hf, ht⟩ := h
  refine wpAny_Call_Name_kw (thn ((pe_var (pos := p) hN hv hd hcd).run pins s σ H (fun v H1 => v = .ref g ∧ H1 = H) I ⟨.ref g, hs, rfl, rfl⟩) fun u s1 ⟨v, H1, I1, rel, ev, eH⟩ => ?_)
  subst ev
  rw [eH] at I1
  obtain rfl : u = Value.ref g := rel
  refine PySem.W.callWith_F (first := []) (fnAt_of I1 hf) (thn (ha.run pos pins s1 σ H _ I1 ht) fun us s2 ⟨vs, H2, I2, r, h1, h2, q⟩ => ⟨fnAt_of I2 h1, ?_⟩) he hpl
  show wpAny _ _ (call (.ref g) us) _ _ _
  have C : CellsAt Fn.cl fr ws s2.heap H2 := held.1.later held.2 (fun y c _ => by rw [exn]; simp) I2
  refine wpAny_call (codeAny_mono (N.run X.A X.stack s2 H2 us vs ws Q E0 hr I2.env0 h1 h2 C r q) fun r' s' hq => ?_)
  rcases r' with e' | fl
  · exact hq.elim
  · rcases fl with _ | _ | _ | u
    · exact hq.elim
    · exact hq.elim
    · exact hq.elim
    · exact I2.after hq
end
end Rp

/-! xs[a:] = ys, ys another list: what the layer has no statement of. -/
namespace Rp
open PySem PySem.Spec PyProof.Rows L2
theorem tail_bounds {k n : Nat} (h : k ≤ n) : sliceBounds (some (k : Int)) none none n = ((k : Int), (n : Int), 1) := by
  simp only [sliceBounds, Option.getD_none, show ¬ ((k : Int) < 0) by omega, if_false, show (1 : Int) > 0 by decide, if_true]
  congr 1
  · omega
theorem tail_items (old fresh : List Value) (k : Nat) : old.toArray.extract 0 k ++ fresh.toArray ++ old.toArray.extract old.toArray.size old.toArray.size = (old.take k ++ fresh).toArray := by
  apply Array.toList_inj.mp
  simp
section
variable {prog : Program} {w : World} {A : Around} {E : Value → Shared → Prop} {s : Shared}
theorem store_tail {at_ src cut : Addr} {old fresh : Array Value} {n1 n2 : Nat} {vlo : Value} {k : Nat} {Q : Unit → Shared → Prop} (oe : s.heap.get? at_ = some { cls := .type "list", data := .seq old n1 })
    (fe : s.heap.get? src = some { cls := .type "list", data := .seq fresh n2 }) (apart : at_ ≠ src) (isCut : s.heap.IsSliceOf cut vlo .none .none) (pLo : IsPart vlo (some (k : Int))) (hk : k ≤ old.size) (room : old.size + fresh.size ≤ sizeLine)
    (go : Q () { s with heap := s.heap.update at_ (Obj.mapSeq fun xs => xs.extract 0 k ++ fresh ++ xs.extract old.size xs.size) }) : wpAny (model prog w) A (setItem (.ref at_) (.ref cut) (.ref src)) Q E s := by
  have lstIs : s.heap.IsList at_ old := PySem.IsL.isList oe
  have srcIs : s.heap.IsList src fresh := PySem.IsL.isList fe
  obtain ⟨oc, hoc, hcc, hdc⟩ := id isCut
  have cutIs : s.TypeIs (.ref cut) "slice" := ⟨oc, hoc, hcc⟩
  have noStep : ¬ ((rawPart none == rawInt 0) = true) := Bool.false_ne_true
  have other : Builtin.List.listSameRef (.ref at_) (.ref src) = false := by unfold Builtin.List.listSameRef; exact beq_eq_false_iff_ne.mpr apart
  have bound : ((fun xs : Array Value => xs.extract 0 k ++ fresh ++ xs.extract old.size xs.size) old).size ≤ sizeLine + 1 := by simp only [Array.size_append, Array.size_extract]; omega
  unfold setItem; try with_reducible refine wpAny_holding ?_
  first | refine wpAny_bind (wpAny_pure ?_) | skip
  refine wpAny_bind (wpAny_sequenceKey lstIs.typeIs (by decide) (wpAny_bind (wpAny_callSpecial?_slot (name := Str.ofString "__setitem__") lstIs.typeIs slot_list_setitem (wpAny_call_entry slot_list_setitem lstIs.typeIs entry_list_setitem ?_ (args_list_setitem _ _ _)))))
  show wpAny _ _ (Builtin.List.listSubscript? (.ref cut) >>= _) _ _ s
  refine wpAny_bind ?_; unfold Builtin.List.listSubscript?
  refine wpAny_bind (wpAny_specialOf cutIs slice_no_index ?_); simp only [Option.isNone_none, if_true]
  refine wpAny_pure ?_; show wpAny _ _ (typeOf (.ref cut) >>= _) _ _ s
  refine wpAny_bind (wpAny_typeOf cutIs ?_)
  first | rw [if_neg (by decide)] | refine PySem.W.KFB.if_not (by decide) ?_
  rw [listSliceParts_eq]; refine wpAny_bind (wpAny_bind (wpAny_field hoc hdc (x := .none) rfl (wpAny_bind (wpAny_listPart .none ?_))))
  rw [if_neg noStep]; refine wpAny_bind (wpAny_field hoc hdc (x := vlo) rfl (wpAny_bind (wpAny_listPart pLo ?_)))
  refine wpAny_bind (wpAny_field hoc hdc (x := .none) rfl (wpAny_bind (wpAny_listPart .none (wpAny_pure ?_))))
  first | simp only [other, Bool.false_eq_true, if_false] | refine PySem.W.KFB.if_not other ?_ | (dsimp only; rw [if_neg (by rw [other]; exact Bool.false_ne_true)])
  refine wpAny_bind (m := Builtin.List.listAllItems (.ref src) "must assign iterable to extended slice") ?_; unfold Builtin.List.listAllItems
  refine wpAny_bind (wpAny_typeOf srcIs.typeIs ?_)
  first | refine PySem.W.KFB.if_so (by decide) ?_ | rw [if_pos (by decide)] | simp only [beq_self_eq_true, Bool.true_or, if_true]
  unfold Builtin.List.listItems; refine wpAny_bind (wpAny_seqItems fe rfl (wpAny_pure ?_))
  refine wpAny_bind (wpAny_bind (wpAny_seqItems oe rfl (wpAny_pure ?_)))
  refine wpAny_bind (wpAny_of_eq ((sliceIndices_raw (some (k : Int)) none none old.size (by simp)).trans (congrArg (pure : Int × Int × Int → Sem (Int × Int × Int)) (tail_bounds hk))) ?_)
  show wpAny _ _ (if ((1 : Int) == 1) = true then _ else _) _ _ s; rw [if_pos (by decide)]
  refine wpAny_bind (wpAny_rule ?_); have small := notLongL room
  first | simp only [small, Bool.false_eq_true, if_false] | refine PySem.W.KFB.if_not small ?_
  first | refine wpAny_bind (wpAny_pure ?_) | skip
  show wpAny _ _ (updateSeq at_ (fun xs => xs.extract 0 ((k : Int)).toNat ++ fresh ++ xs.extract (max (k : Int) (old.size : Int)).toNat xs.size) >>= _) _ _ s
  rw [show (max (k : Int) (old.size : Int)).toNat = old.size by omega, Int.toNat_natCast]
  refine wpAny_bind (wpAny_updateSeq (hz := Nat.le_trans (Nat.le_add_right _ _) room) (_hz' := bound) oe rfl (wpAny_bind (wpAny_letGo ?_)))
  first | exact wpAny_bind (wpAny_pure (wpAny_pure ⟨.none, rfl, wpAny_pure go⟩)) | exact wpAny_pure ⟨.none, rfl, wpAny_pure go⟩
end
/-- xs[a:] = ys -/
def tTail (to : TE) (ta : TO) (tv : TE) : TS := fun D σ H => tv σ H fun y H1 => to σ H1 fun x H2 => ta σ H2 fun i H3 => ∃ (l b : Addr) (xs ys : List V) (k : Nat), y = .ref b ∧ x = .ref l ∧ i = some (k : Int) ∧ H3 l = some (.lst xs) ∧ H3 b = some (.lst ys) ∧ l ≠ b ∧ k ≤ xs.length ∧ xs.length + ys.length ≤ sizeLine ∧
  D.nx σ (upd H3 l (.lst (xs.take k ++ ys)))
section
variable {X : Cx} {o e value : Expr} {pos pos' p2 : Pos} {td tv : TE} {ta : TO}
theorem ps_tail (ho : PE X o td) (hi : PO X (some e) ta) (hv : PE X value tv) (hs : swapsWith value (some (.Subscript o (.Slice (some e) none none p2) pos')) pos.line X.env = pure false := by rfl) :
    PS X (.Assign [.Subscript o (.Slice (some e) none none p2) pos'] value pos) (tTail td ta tv) := by
  refine ⟨fun pins s σ H D I h => wpAny_Assign_Subscript (thn (hv.run pins s σ H _ I h) fun r s1 ⟨v, H1, I1, rv, q1⟩ => thn (ho.run pins s1 σ H1 _ I1 q1) fun u s2 ⟨x, H2, I2, rx, q2⟩ => ?_) hs⟩
  refine wpAny_Slice (thn (hi.run pins s2 σ H2 _ I2 q2) fun vl s3 ⟨i, H3, I3, pl, q3⟩ => ?_)
  obtain ⟨l, b, xs, ys, k, rfl, rfl, rfl, hl, hb, ne, hk, room, go⟩ := q3
  rw [evalPart_none]
  refine wpAny_pure (wpAny_pure ?_)
  cases rv
  cases rx
  have I4 : Inv X pins σ H3 { s3 with heap := s3.heap.push { cls := .type "slice", data := .fields #[vl, .none, .none] } } := I3.kept (t' := s3.toks) fun c ob w => Heap.get?_push_of_some _ w
  obtain ⟨_, old, n1, ro, lo, oe⟩ := I4.lstM hl
  obtain ⟨_, fresh, n2, rf, lf, fe⟩ := I4.lstM hb
  refine store_tail (k := k) oe fe ne (Heap.IsSliceOf.new ..) pl (by rw [List.size_toArray]; omega) (by rw [List.size_toArray, List.size_toArray]; omega) ?_
  refine ⟨σ, _, I4.lset (its' := old.take k ++ fresh) (t' := s3.toks) hl oe ?_ (Vals.append (ro.take _) rf) ?_, go⟩
  · exact tail_items old fresh k
  · rw [List.length_append, List.length_take]; omega
end
end Rp

/-! put: a dict of the BINDING, a def within the def that knows it, folded. -/
namespace Rp
open PySem PySem.Spec PyProof.Rows L2 TL NdefX LamX StX
abbrev Bd := List (Int × Tm)
namespace Tm
def put (b : Bd) : Tm → Tm
  | v n => (b.lookup n).getD (v n)
  | z => z
  | s t => s (t.put b)
  | f l r => f (l.put b) (r.put b)
end Tm
/-- what a dict of a BINDING tells -/
def DbAt (H : Hp) (kvs : List (Key × V)) (bd : Bd) : Prop := ∀ n : Int, (∃ v t, valV kvs (Sum.inl n) = some v ∧ bd.lookup n = some t ∧ TmAt H v t) ∨ (valV kvs (Sum.inl n) = none ∧ bd.lookup n = none)
theorem DbAt.mono {H H' : Hp} {kvs : List (Key × V)} {bd : Bd} (e : ∀ a xs, H a = some (.tup xs) → H' a = some (.tup xs)) (D : DbAt H kvs bd) : DbAt H' kvs bd :=
  fun n => (D n).imp (fun ⟨v, t, a, b, c⟩ => ⟨v, t, a, b, c.mono e⟩) id
/-- pairs of a variable and a TERM -/
def PrAt (H : Hp) (p : Addr) (kv : Int × Tm) : Prop := ∃ x, H p = some (.tup [.int kv.1, x]) ∧ TmAt H x kv.2
theorem PrAt.mono {H H' : Hp} {p : Addr} {kv : Int × Tm} (e : ∀ a xs, H a = some (.tup xs) → H' a = some (.tup xs)) : PrAt H p kv → PrAt H' p kv := fun ⟨x, h, t⟩ => ⟨x, e _ _ h, t.mono e⟩
/-- a BINDING: a plain tuple of pairs, its variables unlike -/
def BdAt (H : Hp) (a : Addr) (bd : Bd) : Prop := ∃ ps : List Addr, PlT H a (ps.map V.ref) ∧ Paired (PrAt H) ps bd ∧ (bd.map (·.1)).Nodup ∧ bd.length ≤ 1000
/-- all tuples stay, plain ones too -/
def Tups (H H' : Hp) : Prop := (∀ a xs, H a = some (.tup xs) → H' a = some (.tup xs)) ∧ ∀ a o xs, H a = some (.frz o (.tup xs)) → H' a = some (.frz o (.tup xs))
theorem Tups.same {H H' : Hp} (e : Same H H') : Tups H H' := ⟨fun _ _ h => e _ _ h, fun _ _ _ h => e _ _ h⟩
theorem Tups.ext {H H' : Hp} (e : ExtN H H') : Tups H H' := ⟨fun _ _ h => e _ _ h (fun _ z => by cases z), fun _ _ _ h => e _ _ h (fun _ z => by cases z)⟩
theorem Tups.but {H H' : Hp} {b : Addr} {ys : List V} (e : But b H H') (hb : H b = some (.lst ys)) : Tups H H' :=
  ⟨fun _ _ h => e _ _ h (ne_of h hb (by intro z; cases z)), fun _ _ _ h => e _ _ h (ne_of h hb (by intro z; cases z))⟩
theorem Tups.trans {H H1 H2 : Hp} (a : Tups H H1) (b : Tups H1 H2) : Tups H H2 := ⟨fun _ _ h => b.1 _ _ (a.1 _ _ h), fun _ _ _ h => b.2 _ _ _ (a.2 _ _ _ h)⟩
theorem BdAt.mono {H H' : Hp} {a : Addr} {bd : Bd} (e : Tups H H') : BdAt H a bd → BdAt H' a bd :=
  fun ⟨ps, h, p, nd, z⟩ => ⟨ps, h.mono fun o => e.2 _ _ _, L2.Paired.mapP p fun _ _ q => q.mono e.1, nd, z⟩
/-- the inner def -/
abbrev sEx : Stmt := (defBody sPut).getD 1 (.Pass ⟨0, 0, 0, 0⟩)
abbrev qEx : Str := ("put" : Str) ++ ".<locals>." ++ "exchanged"
abbrev nfEx (cl : List (Str × Addr)) (c : Addr) : NF := NF.of sEx "exchanged" qEx cl c
abbrev nmEx : Nat → Nat → Str := fun _ _ => qEx
abbrev NEx : List Str := ["part", "below", "found"]
def spEx (ws : List (Option V)) : Sp := fun vs H Q _ => ∃ (x : V) (k : Tm) (l D : Addr) (ks : List V) (bd : Bd) (kvs : List (Key × V)), vs = [x, .ref l] ∧ ws = [some (.ref D)] ∧ TmAt H x k ∧ H l = some (.lst ks) ∧ AllAt H ks (k.kids.map (Tm.put bd)) ∧
  H D = some (.dK kvs) ∧ DbAt H kvs bd ∧ ∀ (v : V) (H' : Hp), TmAt H' v (k.put bd) → Same H H' → Q v H'
section
variable {P : Program} {w : World} {K : PySem.W.Frag} {mg : Str → Option Value} {base : Heap}
theorem scEx (cl : List (Str × Addr)) (c : Addr) : NScope NEx ["part", "below"] ["found"] (nfEx cl c).scope := nscope_by (show nscB NEx ["part", "below"] ["found"] (C8.fnScope sEx) = true by decide +kernel)
theorem ok_ex {g c : Addr} {cl : List (Str × Addr)} (mIsi : mg "isinstance" = none) (mInt : mg "int" = none) : NOk P w K mg base CX0 1 g (nfEx cl c) ["part", "below"] ["found"] spEx := by
  refine nok_of (scEx cl c) (fun _ _ _ us hl => match us, hl with | [_, _], _ => rfl) (fun ws vs H Q E h => ?_) (fun A outer s H vs ws Q E hr hf hc hl h => ?_)
  · obtain ⟨x, k, l, D, ks, bd, kvs, rfl, _⟩ := h
    rfl
  obtain ⟨x, k, l, D, ks, bd, kvs, rfl, rfl, T, h1, A1, hD, DB, q⟩ := h
  have hu := hu_of hr
  refine ⟨_, pss_cons (ps_if (pt_val (pe_callB call_isi (by rfl) mIsi (by decide +kernel) (pa_cons (pv 0) (pa_cons (pe_bltn (v := .ty "int") (by rfl) mInt (by decide +kernel) rfl) pa_nil))))
      (pss_one (ps_ret (pe_dget2 hu (pv 2) (pv 0) (pv 0) ⟨rfl, rfl, rfl, rfl⟩))) pss_nil)
    (pss_one (ps_ret (pe_tup (pa_cons (pe_ix ix_tup (pv 0) pe_int (fun _ _ => rfl)) (pa_star (pv 1) pa_nil))))), ?_⟩
  rcases T.ty (K := K) with ⟨m, rfl, rfl⟩ | ⟨a, xs, rfl, ha, ty, no⟩
  · refine ⟨_, rfl, _, _, _, _, true, rfl, .ty "int", .base (.int m), kit_ii, true, rfl, iteT ?_⟩
    refine ⟨_, rfl, D, rfl, .inl ⟨_, .inl hD⟩, _, rfl, _, rfl, ?_⟩
    rcases DB m with ⟨v, t, e1, e2, T'⟩ | ⟨e1, e2⟩
    · refine ⟨some v, .inl ⟨kvs, Sum.inl m, .inl hD, rfl, e1.symm⟩, q v H ?_ fun _ _ z => z⟩
      show TmAt H v ((bd.lookup m).getD (.v m))
      rw [e2]
      exact T'
    · refine ⟨none, .inl ⟨kvs, Sum.inl m, .inl hD, rfl, e1.symm⟩, q _ H ?_ fun _ _ z => z⟩
      show TmAt H (.int m) ((bd.lookup m).getD (.v m))
      rw [e2]
      exact .v m
  · obtain ⟨a', us, e, ha', hk, hks⟩ := T.tupled no
    cases e
    refine ⟨_, rfl, _, _, _, _, false, rfl, .ty "int", ty, kit_ti, false, rfl, iteF ?_⟩
    have kl := A1.len
    rw [List.length_map] at kl
    refine ⟨_, rfl, _, _, _, _, rfl, rfl, .inl (.inl ha'), at_of (j := 0) rfl rfl, _, rfl, l, ks, rfl, .inr (.inl (.inl h1)), ?_, fun p hp => ?_⟩
    · have : k.kids.length ≤ 2 := by cases k <;> simp [Tm.kids]
      simp only [List.append_nil, List.length_cons]
      have : (3 : Nat) ≤ sizeLine := by decide
      omega
    · have s1 := same_new hp (.tup (V.str (signHead k) :: (ks ++ [])))
      have hp1 : (upd H p (.tup (V.str (signHead k) :: (ks ++ [])))) p = some (.tup (V.str (signHead k) :: (ks ++ []))) := upd_same
      rw [List.append_nil] at hp1
      refine q (.ref p) _ ?_ s1
      rw [List.append_nil] at s1
      have A2 := A1.mono (Tups.same s1).1
      cases k with
      | v n => exact absurd rfl (no n)
      | z =>
        match ks, A2, hp1 with
        | [], _, hp1 => rw [List.append_nil]; exact .z hp1
      | s t =>
        match ks, A2, hp1 with
        | [x], A2, hp1 => rw [List.append_nil]; exact .s hp1 A2.1
      | f l' r =>
        match ks, A2, hp1 with
        | [x, y], A2, hp1 => rw [List.append_nil]; exact .f hp1 A2.1 A2.2.1
end
end Rp

/-! put: fold with the inner def, put itself. -/
namespace Rp
open PySem PySem.Spec PyProof.Rows L2 TL NdefX LamX StX
theorem AllAt.split {H : Hp} {xs : List V} {a b : List Tm} (h : AllAt H xs (a ++ b)) : ∃ ys zs, xs = ys ++ zs ∧ AllAt H ys a ∧ AllAt H zs b := by
  have l := h.len
  rw [List.length_append] at l
  refine ⟨xs.take a.length, xs.drop a.length, (List.take_append_drop _ _).symm, ?_⟩
  rw [← List.take_append_drop a.length xs] at h
  obtain ⟨t1, t2, e, h1, h2⟩ := h.parted
  have l1 := h1.len
  rw [List.length_take] at l1
  obtain ⟨rfl, rfl⟩ := List.append_inj e (by omega)
  exact ⟨h1, h2⟩
theorem put_kids (bd : Bd) {t : Tm} (no : ∀ n, t ≠ .v n) : (t.put bd).kids = t.kids.map (Tm.put bd) := by
  cases t with
  | v n => exact absurd rfl (no n)
  | z => rfl
  | s t => rfl
  | f l r => rfl
abbrev slEx (D : Addr) : List (Option V) := [some (.ref D)]
def spFoldE (g c : Addr) (cl : List (Str × Addr)) (ws : List (Option V)) : Sp := fun vs H Q _ => ∃ (v : V) (t : Tm) (D : Addr) (bd : Bd) (kvs : List (Key × V)), vs = [v, .ref g] ∧ ws = slEx D ∧ TmAt H v t ∧ t.size ≤ 1000 ∧ H g = some (FnO g (nfEx cl c)) ∧ H c = some (CodeO c qEx) ∧
  H D = some (.dK kvs) ∧ DbAt H kvs bd ∧ ∀ (v' : V) (H' : Hp), TmAt H' v' (t.put bd) → Same H H' → Q v' H'
section
variable {P : Program} {w : World} {K : PySem.W.Frag} {mg : Str → Option Value} {base : Heap}
theorem scFold : FnScope ["term", "made_of", "made", "part", "first"] ["term", "made_of"] (defScope sFold) := ⟨rfl, rfl, rfl, by decide +kernel, rfl, by decide +kernel, by decide +kernel⟩
theorem ok_fold {f fI fP : Addr} {fd dI dP : FuncData} (F : Fun K "fold" "fold" sFold f fd)
    (GI : FnOk P w K mg base CX0 2 fI dI ["term"] spInside) (kI : PySem.W.keepIn K (.ref fI) = true) (bI : Binds K dI ["term"] []) (mI : mg "inside_out" = some (.ref fI))
    (GP : FnOk P w K mg base CX0 1 fP dP ["term"] spParts) (kP : PySem.W.keepIn K (.ref fP) = true) (bP : Binds K dP ["term"] []) (mP : mg "_parts" = some (.ref fP))
    (mLen : mg "len" = none) (mIsi : mg "isinstance" = none) (mInt : mg "int" = none) (g c : Addr) (cl : List (Str × Addr)) (ws : List (Option V)) :
    QnOk P w K mg base 3 f fd ["term", "made_of"] (Held1 cl ["found"] ws) (spFoldE g c cl ws) := by
  refine qok F scFold (fun vs H Q E h => ?_) (fun cdv A outer s H vs Q E held hr h => ?_)
  · obtain ⟨v, t, D, bd, kvs, rfl, _⟩ := h
    rfl
  obtain ⟨v, t, D, bd, kvs, rfl, rfl, T, sz, hg, hc, hD, DB, q⟩ := h
  have r1 : Room 1 _ := hr.mono (by decide)
  have GE : NOk P w K mg base CX0 1 g (nfEx cl c) ["part", "below"] ["found"] spEx := ok_ex mIsi mInt
  refine ⟨_, pss_cons (ps_set (i := 2) scFold.nd rfl (Or.inl rfl) (pe_lst pa_nil))
    (pss_cons (ps_for PassesOwn.never rfl (pi_list (pe_call GI hr rfl mI kI bI .nil pass0 (pa_cons (pv 0) pa_nil))) (pg_name (i := 3) scFold.nd rfl (Or.inl rfl))
      (pss_cons (ps_set (i := 4) scFold.nd rfl (Or.inl rfl) (pe_op op_sub (pe_callB call_len_seq (by rfl) mLen PySem.boot_len (pa_cons (pv 2) pa_nil)) (pe_callB call_len_seq (by rfl) mLen PySem.boot_len (pa_cons (pe_call GP r1 rfl mP kP bP .nil pass0 (pa_cons (pv 3) pa_nil)) pa_nil))))
      (pss_one (ps_tail (pv 2) (po_some (pv 4)) (pe_lst (pa_cons (pe_callV (i := 1) (ws := slEx D) GE held rfl r1 rfl (Or.inl rfl) (pa_cons (pv 3) (pa_cons (pe_slice sl_list (pv 2) (po_some (pv 4)) po_none) pa_nil))) pa_nil))))))
    (pss_one (ps_ret (pe_ix ix_list (pv 2) pe_int (fun _ _ => rfl))))), ?_⟩
  refine ⟨(by show 0 ≤ sizeLine; decide), fun m hm => ?_⟩
  have s0 := same_new hm (.lst ([] : List V))
  refine ⟨_, rfl, v, t, rfl, T.same s0, sz, fun p xs H1 hp h1 A1 s1 => ?_⟩
  have hm1 := s1 _ _ (upd_same : (upd H m (.lst ([] : List V))) m = some (.lst []))
  have pm : p ≠ m := (ne_of_none (upd_same : (upd H m (.lst ([] : List V))) m = some (.lst [])) hp).symm
  have gm : g ≠ m := ne_of_none hg hm
  have cm : c ≠ m := ne_of_none hc hm
  have Dm : D ≠ m := ne_of_none hD hm
  have len := A1.len
  rw [List.length_reverse, Tm.rpost_len] at len
  have post : t.rpost.reverse.length = t.size := by rw [List.length_reverse, Tm.rpost_len]
  have big : (10000 : Nat) ≤ sizeLine := by decide
  refine ⟨p, rfl, ⟨_, .inl (.inl h1)⟩, for_list (K := K) (a := p) (xs := xs) (fun i σ H2 => ∃ (S : List Tm) (ys : List V) (x3 x4 : Option V), σ = [some v, some (.ref g), some (.ref m), x3, x4] ∧ H2 m = some (.lst ys) ∧ AllAt H2 ys (S.map (Tm.put bd)) ∧
      runs S (t.rpost.reverse.drop i) [t] ∧ S.length ≤ i ∧ But m H1 H2) ⟨[], [], none, none, rfl, hm1, trivial, ?_, by simp, But.refl _ _⟩ (fun i σ H2 _ ⟨_, _, _, _, _, _, _, _, _, o⟩ => .inl (.inl (o _ _ h1 pm))) ?_ ?_⟩
  · have := runs_post t [] [] [t] rfl
    simpa using this
  · rintro i x σ H2 hi ⟨S, ys, x3, x4, rfl, h2, A2, run, sl, o2⟩
    obtain ⟨k, hk, Tk⟩ := A1.get hi
    have li : i < t.rpost.reverse.length := (List.getElem?_eq_some_iff.mp hk).1
    have ek : t.rpost.reverse.drop i = k :: t.rpost.reverse.drop (i + 1) := by
      rw [List.drop_eq_getElem_cons li, (List.getElem?_eq_some_iff.mp hk).2]
    rw [ek] at run
    obtain ⟨S0, rfl, run⟩ := run
    rw [List.map_append] at A2
    obtain ⟨y1, y2, rfl, B1, B2⟩ := A2.split
    have l1 := B1.len
    have l2 := B2.len
    rw [List.length_map] at l1 l2
    have T2 := Tk.but o2 hm1
    rw [List.length_append] at sl
    have hg2 := o2 _ _ (s1 _ _ (s0 _ _ hg)) gm
    have hc2 := o2 _ _ (s1 _ _ (s0 _ _ hc)) cm
    have hD2 := o2 _ _ (s1 _ _ (s0 _ _ hD)) Dm
    have DB2 := (DB.mono (Tups.same s0).1 |>.mono (Tups.same s1).1).mono (Tups.but o2 hm1).1
    refine ⟨_, rfl, m, _, rfl, .inl (.inl (.inl h2)), _, rfl, x, k, rfl, T2, fun u ks H3 hu h3 A3 s3 => ?_⟩
    have kl := A3.len
    refine ⟨u, _, rfl, .inr (.inl (.inl h3)), _, _, rfl, rfl, ?_⟩
    have h23 := s3 _ _ h2
    have first : ((((y1 ++ y2).length : Nat) : Int) - ((ks.length : Nat) : Int)) = ((y1.length : Nat) : Int) := by
      rw [List.length_append, kl]; omega
    refine ⟨rfl, s3 _ _ hg2, _, rfl, _, rfl, _, rfl, _, rfl, m, _, rfl, .inl (.inl h23), fun d hd => ?_⟩
    have dm : d ≠ m := (ne_of_none h23 hd).symm
    rw [cut_from (i := y1.length) first]
    have cut : (y1 ++ y2).drop y1.length = y2 := by rw [List.drop_left']; rfl
    rw [cut]
    have s4 := same_new hd (.lst y2)
    have s24 : Same H2 (upd H3 d (.lst y2)) := s3.trans s4
    refine ⟨s24 _ _ hg2, s24 _ _ hc2, x, k, d, D, y2, bd, kvs, rfl, rfl, T2.same s24, upd_same, B2.mono (Tups.same s24).1, s24 _ _ hD2, DB2.mono (Tups.same s24).1, fun v' H4 T4 s4' => ?_⟩
    refine ⟨(by show 1 ≤ sizeLine; decide), fun b hb => ?_⟩
    have s5 := same_new hb (.lst [v'])
    have h24 := s4' _ _ (s4 _ _ h23)
    have h25 := s5 _ _ h24
    refine ⟨_, rfl, _, rfl, _, rfl, m, b, _, _, y1.length, rfl, rfl, congrArg some first, h25, upd_same, ne_of_none h24 hb, ?_, ?_, ?_⟩
    · rw [List.length_append]; omega
    · rw [List.length_append, List.length_singleton]; omega
    · have s25 : Same H2 (upd H4 b (.lst [v'])) := (s24.trans s4').trans s5
      have u6 : Tups (upd H4 b (.lst [v'])) (upd (upd H4 b (.lst [v'])) m (.lst ((y1 ++ y2).take y1.length ++ [v']))) := Tups.but (but_upd _) h25
      refine ⟨S0 ++ [k], y1 ++ [v'], _, _, rfl, ?_, ?_, run, ?_, ?_⟩
      · rw [upd_same, List.take_left' rfl]
      · rw [List.map_append]
        exact ((B1.mono (Tups.same s25).1).mono u6.1).append ⟨(T4.same s5).mono u6.1, trivial⟩
      · rw [List.length_append, List.length_singleton]
        omega
      · intro c' o' z nc
        rw [upd_ne nc]
        exact s25 _ _ (o2 _ _ z nc)
  · rintro σ H2 ⟨S, ys, x3, x4, rfl, h2, A2, run, sl, o2⟩
    rw [List.drop_of_length_le (by omega)] at run
    obtain rfl : S = [t] := run
    match ys, A2 with
    | [y], A2 =>
      refine ⟨_, rfl, m, _, _, _, rfl, rfl, .inl (.inl h2), at_of (j := 0) rfl rfl, q y H2 A2.1 ?_⟩
      exact fun c o z => o2 c o (s1 _ _ (s0 _ _ z)) (ne_of_none z hm)
end
end Rp

/-! put itself; all but the tables stays. -/
namespace Rp
open PySem PySem.Spec PyProof.Rows L2 TL NdefX LamX StX
/-- all but the tables stays, the tables are tables still -/
structure Ext (T : List NTab) (H H' : Hp) : Prop where
  ext : ExtN H H'
  tab : TabsN T H'
  nn : ∀ b, H' b = none → H b = none
theorem same_none {H H' : Hp} (e : Same H H') (b : Addr) (h : H' b = none) : H b = none := by
  cases q : H b with
  | none => rfl
  | some u => have := e _ _ q; rw [h] at this; cases this
theorem Ext.same {T : List NTab} {H H' : Hp} (t : TabsN T H) (e : Same H H') : Ext T H H' := ⟨ExtN.of e, t.ext e, same_none e⟩
theorem Ext.trans {T : List NTab} {H H1 H2 : Hp} (a : Ext T H H1) (b : Ext T H1 H2) : Ext T H H2 := ⟨a.ext.trans b.ext, b.tab, fun x h => a.nn _ (b.nn _ h)⟩
theorem Ext.lst {T : List NTab} {H H' : Hp} (e : Ext T H H') {a : Addr} {xs : List V} (h : H a = some (.lst xs)) : H' a = some (.lst xs) := e.ext _ _ h fun _ z => by cases z
theorem Ext.tups {T : List NTab} {H H' : Hp} (e : Ext T H H') : Tups H H' := Tups.ext e.ext
theorem pairs_of {K : PySem.W.Frag} {H : Hp} : ∀ {ps : List Addr} {bd : Bd}, Paired (PrAt H) ps bd → ∃ kvs : List (Key × V), Paired (fun p (kv : Key × V) => SqT K H p [kV kv.1, kv.2]) ps kvs ∧ Paired (fun (kv : Key × V) (q : Int × Tm) => kv.1 = Sum.inl q.1 ∧ TmAt H kv.2 q.2) kvs bd
  | _, _, .nil => ⟨[], .nil, .nil⟩
  | _, _, .cons (b := q) h t => by
    obtain ⟨x, hx, tx⟩ := h
    obtain ⟨kvs, h1, h2⟩ := pairs_of (K := K) t
    exact ⟨(Sum.inl q.1, x) :: kvs, .cons (.inl (.inl hx)) h1, .cons ⟨rfl, tx⟩ h2⟩
theorem merged_tells {H : Hp} : ∀ {kvs : List (Key × V)} {bd : Bd}, Paired (fun (kv : Key × V) (q : Int × Tm) => kv.1 = Sum.inl q.1 ∧ TmAt H kv.2 q.2) kvs bd → (bd.map (·.1)).Nodup → ∀ (acc : List (Key × V)) (n : Int),
    (bd.lookup n = none → valV (mergeK acc kvs) (Sum.inl n) = valV acc (Sum.inl n)) ∧ (∀ t, bd.lookup n = some t → ∃ v, valV (mergeK acc kvs) (Sum.inl n) = some v ∧ TmAt H v t)
  | _, _, .nil, _, acc, n => ⟨fun _ => rfl, fun t h => by cases h⟩
  | _, _, .cons (a := kv) (l₁ := kvs) (b := q) (l₂ := bd) h t, nd, acc, n => by
    obtain ⟨k, y⟩ := kv
    obtain ⟨m, tm⟩ := q
    obtain ⟨e, T⟩ := h
    have e : k = Sum.inl m := e
    subst e
    have T : TmAt H y tm := T
    rw [List.map_cons, List.nodup_cons] at nd
    have ih := merged_tells t nd.2 (putK acc (Sum.inl m) y) n
    have step : mergeK acc ((Sum.inl m, y) :: kvs) = mergeK (putK acc (Sum.inl m) y) kvs := rfl
    rw [step]
    by_cases hn : n = m
    · subst hn
      have no : bd.lookup n = none := by
        rw [List.lookup_eq_none_iff]
        intro p hp
        have : n ≠ p.1 := fun z => nd.1 (List.mem_map.mpr ⟨p, hp, z.symm⟩)
        simpa using this
      have hl : ((n, tm) :: bd).lookup n = some tm := by simp [List.lookup]
      refine ⟨fun z => ?_, fun t' z => ?_⟩
      · rw [hl] at z; cases z
      · rw [hl] at z; cases z
        refine ⟨y, ?_, T⟩
        rw [ih.1 no, valV_put, if_pos rfl]
    · have hl : ((m, tm) :: bd).lookup n = bd.lookup n := by
        rw [List.lookup_cons, beq_eq_false_iff_ne.mpr hn]
      rw [hl]
      refine ⟨fun z => ?_, ih.2⟩
      rw [ih.1 z, valV_put, if_neg (fun z => hn (Sum.inl.inj z))]
theorem dict_of {H : Hp} {kvs : List (Key × V)} {bd : Bd} (h : Paired (fun (kv : Key × V) (q : Int × Tm) => kv.1 = Sum.inl q.1 ∧ TmAt H kv.2 q.2) kvs bd) (nd : (bd.map (·.1)).Nodup) : DbAt H (mergeK [] kvs) bd := fun n => by
  obtain ⟨h1, h2⟩ := merged_tells h nd [] n
  cases e : bd.lookup n with
  | none => exact .inr ⟨h1 e, rfl⟩
  | some t =>
    obtain ⟨v, a, b⟩ := h2 t e
    exact .inl ⟨v, t, a, rfl, b⟩
def spPut (T : List NTab) : Sp := fun vs H Q _ => ∃ (v : V) (t : Tm) (a : Addr) (bd : Bd), vs = [v, .ref a] ∧ TmAt H v t ∧ t.size ≤ 1000 ∧ BdAt H a bd ∧ TabsN T H ∧ ∀ (v' : V) (H' : Hp), TmAt H' v' (t.put bd) → Ext T H H' → Q v' H'
section
variable {P : Program} {w : World} {K : PySem.W.Frag} {mg : Str → Option Value} {base : Heap}
/-- a def by its body, its code object told -/
theorem okC {x qual : Str} {st : Stmt} {f c : Addr} {fd : FuncData} {N ps : List Str} {k : Nat} {sp : Sp} (F : Fun K x qual st f fd) (hc : fd.code = .ref c) (S : FnScope N ps (defScope st)) (len : ∀ vs H Q E, sp vs H Q E → vs.length = ps.length)
    (walk : ∀ (A : Around) (outer : List Env) (s : Shared) (H : Hp) (vs : List V) (Q : VK) (E : XK), Room k (A.deeper (envOfC qual (defScope st) s.heap.objs.size f (.ref c))) → sp vs H Q E →
      ∃ t, PSs (cxOf CX0 P w K mg base N qual (defScope st) f (.ref c) A outer s H E).nox (defBody st) t ∧ t { nx := fun _ H' => Q .non H', rt := Q } (start N vs) H) : FnOk P w K mg base CX0 (k + 1) f fd ps sp := by
  obtain ⟨oc, od, kV, doc, pm, an, cdv, ct, osl, rfl, lk, hcd⟩ := F.ex
  obtain rfl : cdv = .ref c := hc
  refine fn_of lk hcd S len fun A outer s H vs Q E hr hsp => ?_
  obtain ⟨t, h, q⟩ := walk A outer s H vs Q E hr hsp
  exact ⟨t, h.nox, q⟩
abbrev NPut : List Str := ["term", "binding", "found", "exchanged"]
theorem scPut : FnScope NPut ["term", "binding"] (defScope sPut) := ⟨rfl, rfl, rfl, by decide +kernel, rfl, by decide +kernel, by decide +kernel⟩
theorem ok_put {f fF c Pt : Addr} {fd dF : FuncData} (F : Fun K "put" "put" sPut f fd) (hc : fd.code = .ref c) (TB : TabB base mg c Pt)
    (GF : ∀ (g c : Addr) (cl : List (Str × Addr)) (ws : List (Option V)), QnOk P w K mg base 3 fF dF ["term", "made_of"] (Held1 cl ["found"] ws) (spFoldE g c cl ws)) (kF : PySem.W.keepIn K (.ref fF) = true) (bF : Binds K dF ["term", "made_of"] []) (mF : mg "fold" = some (.ref fF))
    (mDict : mg "dict" = none) : FnOk P w K mg base CX0 4 f fd ["term", "binding"] (spPut [(Pt, nmEx)]) := by
  refine okC F hc scPut (fun vs H Q E h => ?_) (fun A outer s H vs Q E hr h => ?_)
  · obtain ⟨v, t, a, bd, rfl, _⟩ := h
    rfl
  obtain ⟨v, t, a, bd, rfl, T, sz, B, hT, q⟩ := h
  have nb : ndefB (defScope sPut) (C8.fnScope sEx) ["found"] = true := by decide +kernel
  refine ⟨_, pss_cons (ps_set (i := 2) scPut.nd rfl (Or.inr rfl) (pe_callTy (cr_dictT rfl) rfl mDict (by decide +kernel) (pa_cons (pv 1) pa_nil)))
    (pss_cons (ps_ndefMS (st := sEx) (T := [(Pt, nmEx)]) (nm := nmEx) (c := c) (P := Pt) (i := 3) rfl TB rfl (List.mem_singleton.mpr rfl) (by rfl) (fun p hp _ => by rw [List.mem_singleton.mp hp]) (ndef_free (sc := defScope sPut) nb) rfl rfl rfl scPut.nd rfl (Or.inl rfl) (.inl rfl))
    (pss_one (ps_ret (pe_callQ (fr := ["found"]) (js := [2]) (fun g c' ws => GF g c' _ ws) (fun ok => Caps.made (scope := C8.fnScope sEx) ok (ndef_free (sc := defScope sPut) nb) (ndef_fr (sc := defScope sPut) nb) rfl) ⟨rfl, rfl⟩ (fun _ => rfl) hr rfl mF kF bF (pa_cons (pv 0) (pa_cons (pv 3) pa_nil)))))), ?_⟩
  obtain ⟨ps, hp, pr, nd, bz⟩ := B
  obtain ⟨kvs, h1, h2⟩ := pairs_of (K := K) pr
  refine ⟨_, rfl, a, ps, kvs, rfl, hp, h1, fun D hD => ?_⟩
  have s1 := same_new hD (.dK (mergeK [] kvs))
  have DB := dict_of h2 nd
  refine ⟨hT.ext s1, fun g c' H1 e1 nn1 T1 hg hg1 hc1 => ?_⟩
  have u1 : Tups H H1 := (Tups.same s1).trans (Tups.ext e1)
  have hD1 := e1 _ _ (upd_same : (upd H D (.dK (mergeK [] kvs))) D = some (.dK (mergeK [] kvs))) (fun _ z => by cases z)
  refine ⟨_, rfl, _, rfl, g, c', v, t, D, bd, _, rfl, rfl, T.mono u1.1, sz, hg1, hc1, hD1, DB.mono u1.1, fun v' H' T' s' => q v' H' T' ?_⟩
  exact (Ext.same hT s1).trans ((⟨e1, T1, nn1⟩ : Ext _ _ _).trans (Ext.same T1 s'))
end
end Rp

/-! A set of ints made by a comprehension of two fors. -/
namespace Rp
open PySem PySem.Spec PyProof.Rows L2 PpSet
/-- {elt for ta in ia if fa for tb in ib if fb} -/
abbrev scx (elt ta ia : Expr) (fa : List Expr) (tb ib : Expr) (fb : List Expr) (sc : Scope) (at_ : Pos) : Expr := .SetComp elt [⟨ta, ia, fa, 0⟩, ⟨tb, ib, fb, 0⟩] sc at_
theorem scx_turnA (elt ta ia : Expr) (fa : List Expr) (tb ib : Expr) (fb : List Expr) (sc : Scope) (at_ : Pos) (cur box : Value) (en : Env) :
    compTurn (scx elt ta ia fa tb ib fb sc at_) 0 cur box en = (do
      standAt ia.pos
      match ← pyNext cur with
      | none => pure (.done .next)
      | some got =>
        letOwnedTupleGo ta cur got
        assign ta en got
        let mut fine := true
        for c in fa do
          if fine then fine ← isTrue c en (eval c en)
        if fine then
          let y ← eval ib en
          standAt ib.pos
          let y ← foldedSetIterable ib en y
          let _ ← runOwn (.compStart (scx elt ta ia fa tb ib fb sc at_) 1 (← holding [y] (pyIter y)) box en) en
        again (.compLoop (scx elt ta ia fa tb ib fb sc at_) 0 cur box en)) := by rfl
theorem scx_turnB (elt ta ia : Expr) (fa : List Expr) (tb ib : Expr) (fb : List Expr) (sc : Scope) (at_ : Pos) (cur box : Value) (en : Env) :
    compTurn (scx elt ta ia fa tb ib fb sc at_) 1 cur box en = (do
      standAt ib.pos
      match ← pyNext cur with
      | none => pure (.done .next)
      | some got =>
        letOwnedTupleGo tb cur got
        assign tb en got
        let mut fine := true
        for c in fb do
          if fine then fine ← isTrue c en (eval c en)
        if fine then
          (do let y ← eval elt en; standAt elt.pos; let _ ← call (.builtin "set.add") [box, y])
        again (.compLoop (scx elt ta ia fa tb ib fb sc at_) 1 cur box en)) := by rfl
section
variable {pr : Program} {w : World} {A : Around} {R : Result → Shared → Prop} {s : Shared} {elt ta ia tb ib : Expr} {fa fb : List Expr} {sc : Scope} {at_ : Pos} {cur box : Value} {en : Env}
/-- a clause's tests -/
abbrev testsOf (fs : List Expr) (en : Env) : Sem Bool := forIn fs true fun c r => if r = true then do let fine ← isTrue c en (eval c en); pure (ForInStep.yield fine) else pure (ForInStep.yield r)
/-- an error on the way is noted -/
abbrev noteE (pr : Program) (w : World) (A : Around) (R : Result → Shared → Prop) (en : Env) : Value → Shared → Prop := notedBy (model pr w) A en fun e s' => R (.error e) s'
theorem scx_loopA (plain : ∀ y, foldedSetIterable ib en y = pure y) (J : Nat → Shared → Prop)
    (each : ∀ n s, J n s → wpAny (model pr w) A (pyNext cur) (fun r s1 => match r with
      | none => R (.ok .next) s1
      | some got => wpAny (model pr w) A (letOwnedTupleGo ta cur got) (fun _ s2 => wpAny (model pr w) A (assign ta en got) (fun _ s3 => wpAny (model pr w) A (testsOf fa en) (fun fine s4 =>
            if fine = true then wpAny (model pr w) A (eval ib en) (fun y s5 => wpAny (model pr w) A (pyIter y) (fun cur1 s6 =>
              codeAny (model pr w) A (.compStart (scx elt ta ia fa tb ib fb sc at_) 1 cur1 box en) (fun r s' => match r with
                | .ok _ => ∃ m, m < n ∧ J m s'
                | .error _ => False) s6) (noteE pr w A R en) s5) (noteE pr w A R en) s4
            else ∃ m, m < n ∧ J m s4) (noteE pr w A R en) s3) (noteE pr w A R en) s2) (noteE pr w A R en) s1) (noteE pr w A R en) s)
    (n : Nat) (h0 : J n s) : codeAny (model pr w) A (.compLoop (scx elt ta ia fa tb ib fb sc at_) 0 cur box en) R s := by
  refine codeAny_loop rfl J (fun n s hJ => ?_) n h0
  show wpAny _ A ((compTurn (scx elt ta ia fa tb ib fb sc at_) 0 cur box en).onRaise (fun z => do noteFrame z en; theTreesLotGoes z)) _ _ s
  refine wpAny_noted ?_
  rw [scx_turnA]
  refine wpAny_bind (wpAny_standAt (wpAny_bind (wpAny_mono (each n s hJ) (fun r s1 q1 => ?_) fun _ _ z => z)))
  rcases r with _ | got
  · exact wpAny_pure q1
  · refine wpAny_bind (wpAny_mono q1 (fun _ s2 q2 => wpAny_bind (wpAny_mono q2 (fun _ s3 q3 => wpAny_bind (wpAny_mono q3 (fun fine s4 q4 => ?_) fun _ _ z => z)) fun _ _ z => z)) fun _ _ z => z)
    cases fine with
    | false => exact wpAny_pure ⟨rfl, q4⟩
    | true =>
      refine wpAny_bind (wpAny_mono q4 (fun y s5 q5 => wpAny_bind (wpAny_standAt (wpAny_bind (wpAny_of_eq (plain y) (wpAny_bind (wpAny_holding (wpAny_mono q5 (fun cur1 s6 q6 => ?_) fun _ _ z => z))))))) fun _ _ z => z)
      refine wpAny_bind (wpAny_runOwn ?_)
      rw [Around.mark_none]
      refine codeAny_mono q6 fun r s' hr => ?_
      rcases r with e | fl
      · exact hr.elim
      · first
          | exact wpAny_pure ⟨rfl, hr⟩
          | exact wpAny_bind (wpAny_pure (wpAny_pure ⟨rfl, hr⟩))
theorem scx_loopB (J : Nat → Shared → Prop)
    (each : ∀ n s, J n s → wpAny (model pr w) A (pyNext cur) (fun r s1 => match r with
      | none => R (.ok .next) s1
      | some got => wpAny (model pr w) A (letOwnedTupleGo tb cur got) (fun _ s2 => wpAny (model pr w) A (assign tb en got) (fun _ s3 => wpAny (model pr w) A (testsOf fb en) (fun fine s4 =>
            if fine = true then wpAny (model pr w) A (eval elt en) (fun y s5 => wpAny (model pr w) A (call (.builtin "set.add") [box, y]) (fun _ s6 => ∃ m, m < n ∧ J m s6) (noteE pr w A R en) s5) (noteE pr w A R en) s4
            else ∃ m, m < n ∧ J m s4) (noteE pr w A R en) s3) (noteE pr w A R en) s2) (noteE pr w A R en) s1) (noteE pr w A R en) s)
    (n : Nat) (h0 : J n s) : codeAny (model pr w) A (.compLoop (scx elt ta ia fa tb ib fb sc at_) 1 cur box en) R s := by
  refine codeAny_loop rfl J (fun n s hJ => ?_) n h0
  show wpAny _ A ((compTurn (scx elt ta ia fa tb ib fb sc at_) 1 cur box en).onRaise (fun z => do noteFrame z en; theTreesLotGoes z)) _ _ s
  refine wpAny_noted ?_
  rw [scx_turnB]
  refine wpAny_bind (wpAny_standAt (wpAny_bind (wpAny_mono (each n s hJ) (fun r s1 q1 => ?_) fun _ _ z => z)))
  rcases r with _ | got
  · exact wpAny_pure q1
  · refine wpAny_bind (wpAny_mono q1 (fun _ s2 q2 => wpAny_bind (wpAny_mono q2 (fun _ s3 q3 => wpAny_bind (wpAny_mono q3 (fun fine s4 q4 => ?_) fun _ _ z => z)) fun _ _ z => z)) fun _ _ z => z)
    cases fine with
    | false => exact wpAny_pure ⟨rfl, q4⟩
    | true => exact wpAny_bind (wpAny_bind (wpAny_mono q4 (fun y s5 q5 => wpAny_bind (wpAny_standAt (wpAny_bind (wpAny_mono q5 (fun _ s6 q6 => wpAny_pure (wpAny_pure ⟨rfl, q6⟩)) fun _ _ z => z)))) fun _ _ z => z))
theorem scx_startB (go : codeAny (model pr w) A (.compLoop (scx elt ta ia fa tb ib fb sc at_) 1 cur box en) R s)
    (own : wpAny (model pr w) A (pyIter cur) (fun c' s' => codeAny (model pr w) A (.compLoop (scx elt ta ia fa tb ib fb sc at_) 1 c' box en) R s') (noteE pr w A R en) s) :
    codeAny (model pr w) A (.compStart (scx elt ta ia fa tb ib fb sc at_) 1 cur box en) R s := by
  refine codeAny_of_tree ?_
  show wpAny _ _ ((compStart (scx elt ta ia fa tb ib fb sc at_) 1 cur box en).onRaise (fun z => do noteFrame z en; standAt theWindowsPlace)) _ _ s
  refine wpAny_notedAt ?_
  unfold compStart
  show wpAny _ _ (ask >>= _) _ _ s
  refine wpAny_bind (wpAny_askSetting (wpAny_ite ?_))
  split
  · first
      | exact wpAny_bind (wpAny_pure (wpAny_pure (And.intro rfl go)))
      | exact wpAny_pure (And.intro rfl go)
  · first
      | exact wpAny_bind (wpAny_rule (wpAny_bind (wpAny_standAt (wpAny_bind (wpAny_mono own (fun c' s' q => wpAny_pure (And.intro rfl q)) fun _ _ z => z)))))
      | (refine wpAny_bind (wpAny_rule ?_); show wpAny _ _ (standAt ib.pos >>= _) _ _ s; exact wpAny_bind (wpAny_standAt (wpAny_bind (wpAny_mono own (fun c' s' q => wpAny_pure (And.intro rfl q)) fun _ _ z => z))))
end
section
variable {X : Cx}
/-- what such a comprehension asks: the outer walk's turns (W, Nx), behind each one the inner walk's (W', Nx') -/
def tScI2 (w : World) (wi : TI) (g : TG) (tt : TT) (wi' : TI) (g' : TG) (tt' : TT) (te : TE) (vs vs' : List Nat) : TE := fun σ H Q => wi σ H fun J H1 => ∀ D, H1 D = none →
  ∃ W : Nat → Nat → Hp → Prop, (∃ m, W 0 m (upd H1 D (SetO w D (fun _ => false) 0))) ∧ ∀ i m H, W i m H → (J.stop i H ∧ Q (.ref D) H) ∨
    (J.go i H ∧ ∃ Nx : Hp → Prop, (∀ H', Nx H' → ∃ m', m' < m ∧ W (i + 1) m' H') ∧ ∀ x H', J.yld i H x H' → g x (wipe σ vs) H' fun σ2 H2 => wipe σ2 vs = wipe σ vs ∧
      tt σ2 H2 fun b H3 => if b = true then wi' σ2 H3 fun J' H4 => ∃ W' : Nat → Nat → Hp → Prop, (∃ m, W' 0 m H4) ∧ ∀ j k H, W' j k H → (J'.stop j H ∧ Nx H) ∨
        (J'.go j H ∧ ∃ Nx' : Hp → Prop, (∀ H', Nx' H' → ∃ k', k' < k ∧ W' (j + 1) k' H') ∧ ∀ x H', J'.yld j H x H' → g' x (wipe σ2 vs') H' fun σ3 H5 => wipe σ3 vs' = wipe σ2 vs' ∧
          tt' σ3 H5 fun b H6 => if b = true then te σ3 H6 fun y H7 => ∃ (n : Int) (S : Int → Bool) (c : Nat), y = .int n ∧ H7 D = some (SetO w D S c) ∧ c + 1 < scanBound ∧
            Nx' (upd H7 D (SetO w D (fun j => S j || decide (j = n)) (if S n = true then c else c + 1))) else Nx' H6)
      else Nx H3)
theorem pe_scI2 {elt ta ia tb ib : Expr} {fa fb : List Expr} {sc : Scope} {own : List (PySem.Str × Nat)} {vs' : List Nat} {at_ : Pos} {wi wi' : TI} {g g' : TG} {tt tt' : TT} {te : TE}
    (calm : X.calm = true) (nd : X.N.Nodup) (hi : PI X ta ia wi) (ok : BlkOk X.N X.env.scope sc own) (inn : ∀ i ∈ vs', i ∈ own.map (·.2))
    (hg : ∀ (s : Shared) (H : Hp) (C : Addr) (cl : List (PySem.Str × Addr)) (fp : List Addr), PG (X.blk s H sc (compEnvC sc cl C X.env) fp) ta g)
    (ht : ∀ (s : Shared) (H : Hp) (C : Addr) (cl : List (PySem.Str × Addr)) (fp : List Addr), PTs (X.blk s H sc (compEnvC sc cl C X.env) fp) fa tt)
    (hi' : ∀ (s : Shared) (H : Hp) (C : Addr) (cl : List (PySem.Str × Addr)) (fp : List Addr), PI (X.blk s H sc (compEnvC sc cl C X.env) fp) tb ib wi')
    (hg' : ∀ (s : Shared) (H : Hp) (C : Addr) (cl : List (PySem.Str × Addr)) (fp : List Addr), PG (X.blk s H sc (compEnvC sc cl C X.env) fp) tb g')
    (ht' : ∀ (s : Shared) (H : Hp) (C : Addr) (cl : List (PySem.Str × Addr)) (fp : List Addr), PTs (X.blk s H sc (compEnvC sc cl C X.env) fp) fb tt')
    (he : ∀ (s : Shared) (H : Hp) (C : Addr) (cl : List (PySem.Str × Addr)) (fp : List Addr), PE (X.blk s H sc (compEnvC sc cl C X.env) fp) elt te)
    (plain : ∀ y, foldedSetIterable ia X.env y = pure y := by intro _; rfl) (plain' : ∀ en y, foldedSetIterable ib en y = pure y := by intro _ _; rfl) :
    PE X (scx elt ta ia fa tb ib fb sc at_) (tScI2 X.w wi g tt wi' g' tt' te (own.map (·.2)) vs') := by
  refine ⟨fun pins s σ H Q I h => ?_⟩
  rw [eval_SetComp]
  have caught : ∀ y ∈ sc.names, y.2 = .free → ∃ c, X.env.cells.lookup y.1 = some c := fun y hy e =>
    (ok.free y hy e).elim (fun k => I.ok.has _ (.inl k)) fun k => I.ok.has _ (.inr k)
  refine wpAny_comprehension_free (use := none) rfl plain (closure_ok caught) ok.kind (fun y hy e => (ok.uniq y hy).trans (by rw [e])) (thn (hi.run pins s σ H _ I h) fun xv s1 hx => thn hx fun itv s2 h2 => ?_)
  obtain ⟨it, fp, tn, J, H2, rfl, I2, T, st2, f2, q⟩ := h2
  refine newSet_ok (newEnv_comp ?_)
  obtain ⟨D, hD⟩ : ∃ D, s2.heap.objs.size = D := ⟨_, rfl⟩
  rw [hD]
  obtain ⟨W, ⟨m0, w0⟩, turn⟩ := q D (I2.hok.fresh (Nat.le_of_eq hD))
  obtain ⟨s3, hs3⟩ : ∃ s3 : Shared, { s2 with heap := s2.heap.push (emptySet X.w) } = s3 := ⟨_, rfl⟩
  have h3 : s3.heap = s2.heap.push (emptySet X.w) := by rw [← hs3]
  have I3 : Inv X pins σ (upd H2 D (SetO X.w D (fun _ => false) 0)) s3 := by
    have z := I2.laid (a := D) (o := SetO X.w D (fun _ => false) 0) (t' := s2.toks) (h' := s2.heap.push (emptySet X.w)) (fun b o e => Heap.get?_push_of_some _ e) (Nat.le_of_eq hD) (by rw [← hD]; exact setO_new (setR_fresh X.w))
    exact hs3 ▸ z
  have low : ∀ b ∈ fp, b < s2.heap.objs.size := fun b hb => let ⟨o, e, _⟩ := T.obj _ _ st2 b hb; Heap.lt_size e
  have f3 : ∀ b ∈ fp, FpOk X pins (upd H2 D (SetO X.w D (fun _ => false) 0)) b ∧ b < s3.heap.objs.size := fun b hb =>
    ⟨⟨(upd_ne (by rw [← hD]; exact Nat.ne_of_lt (low b hb))).trans (f2 b hb).1, (f2 b hb).2⟩, by rw [h3, Heap.size_push]; exact Nat.lt_succ_of_lt (low b hb)⟩
  have st3 : tn 0 s3.heap := T.keep _ _ _ st2 fun b _ o e => h3 ▸ Heap.get?_push_of_some _ e
  have I4 := block_start I3 ok nd f3
  obtain ⟨H3, hH3⟩ : ∃ H3, upd H2 D (SetO X.w D (fun _ => false) 0) = H3 := ⟨_, rfl⟩
  rw [hH3] at I3 f3 I4 w0
  obtain ⟨C, hC⟩ : ∃ C, s3.heap.objs.size = C := ⟨_, rfl⟩
  rw [hC] at I4
  have pg := hg s3 H3 C (cellsFrom (C + 1) sc.names (cloFrom X.env.cells sc.names [])) fp
  have pt := ht s3 H3 C (cellsFrom (C + 1) sc.names (cloFrom X.env.cells sc.names [])) fp
  have pi' := hi' s3 H3 C (cellsFrom (C + 1) sc.names (cloFrom X.env.cells sc.names [])) fp
  have pg' := hg' s3 H3 C (cellsFrom (C + 1) sc.names (cloFrom X.env.cells sc.names [])) fp
  have pt' := ht' s3 H3 C (cellsFrom (C + 1) sc.names (cloFrom X.env.cells sc.names [])) fp
  have pe := he s3 H3 C (cellsFrom (C + 1) sc.names (cloFrom X.env.cells sc.names [])) fp
  subst hs3
  have hC' : (s2.heap.push (emptySet X.w)).objs.size = C := hC
  show codeAny _ _ (.compStart (scx elt ta ia fa tb ib fb sc at_) 0 (.ref it) (.ref D) (compEnvC sc (cellsFrom ((s2.heap.push (emptySet X.w)).objs.size + 1) sc.names (cloFrom X.env.cells sc.names [])) (s2.heap.push (emptySet X.w)).objs.size X.env))
    (compPost (model X.prog X.w) X.A X.xe none (EP X pins σ Q) (.ref D) (s2.heap.push (emptySet X.w)).objs.size) { s2 with heap := pushCells ((s2.heap.push (emptySet X.w)).push { cls := .type "dict", data := .dict #[] }) sc.names }
  rw [hC']
  obtain ⟨ce, hce⟩ : ∃ ce, compEnvC sc (cellsFrom (C + 1) sc.names (cloFrom X.env.cells sc.names [])) C X.env = ce := ⟨_, rfl⟩
  rw [hce] at I4 pg pt pi' pg' pt' pe ⊢
  have cL : ce.locals = C := by subst hce; rfl
  obtain ⟨s4, hs4⟩ : ∃ s4 : Shared, { s2 with heap := pushCells ((s2.heap.push (emptySet X.w)).push { cls := .type "dict", data := .dict #[] }) sc.names } = s4 := ⟨_, rfl⟩
  obtain ⟨Y, hY⟩ : ∃ Y, X.blk { s2 with heap := s2.heap.push (emptySet X.w) } H3 sc ce fp = Y := ⟨_, rfl⟩
  have I4 : Inv Y [] (wipe σ (own.map (·.2))) H3 s4 := hY ▸ hs4 ▸ I4
  rw [hs4]
  have st4 : tn 0 s4.heap := T.keep _ _ _ st3 fun b _ o e => by rw [← hs4]; exact pushCells_keeps _ _ _ _ (Heap.get?_push_of_some _ e)
  have rest : ∀ {σ' : L2.St} {H' : Hp} {s' : Shared}, Inv Y [] σ' H' s' → (∀ b ∈ fp, H' b = none) → ∀ b ∈ fp, FpOk Y [] H' b := by
    subst hY
    intro σ' H' s' I' hn b hb
    exact ⟨hn b hb, (I'.ok.exf b hb).1, I'.ok.exfs b hb, .inl hb, fun x c e => (I'.ok.exf b hb).2 x c e, fun p hp => absurd (show p ∈ ([] : List (Addr × Obj)) ++ [] from hp) (by simp)⟩
  obtain ⟨Go, hGo⟩ : ∃ Go : Nat → Shared → Prop, Go = fun n s' => ∃ i H', Inv Y [] (wipe σ (own.map (·.2))) H' s' ∧ tn i s'.heap ∧ (∀ b ∈ fp, H' b = none) ∧ W i n H' := ⟨_, rfl⟩
  have round : codeAny (model X.prog X.w) X.A (.compLoop (scx elt ta ia fa tb ib fb sc at_) 0 (.ref it) (.ref D) ce) (compPost (model X.prog X.w) X.A X.xe none (EP X pins σ Q) (.ref D) C) s4 := by
    refine scx_loopA (plain' ce) Go ?_ m0 (by rw [hGo]; exact ⟨0, H3, I4, st4, fun b hb => (f3 b hb).1.1, w0⟩)
    intro n s5 g5
    rw [hGo] at g5
    obtain ⟨i, H5, I5, st5, n5, w5⟩ := g5
    rcases turn i n H5 w5 with ⟨over, last⟩ | ⟨more, Nx, hNx, step⟩
    · subst hY
      refine thnF (T.done (X.blk _ H3 sc ce fp) rfl rfl rfl calm i [] s5 _ H5 (fun _ _ => False) I5 (rest I5 n5) st5 over) fun r s6 ⟨hr, I6⟩ => ?_
      subst hr
      have I7 : Inv X pins σ H5 s6 := I3.call' (ch := fp) I6.os I6.base I6.hok I6.bare fun b hb => ⟨(f3 b hb).1.2.2.2.1, (f3 b hb).1.2.1, (f3 b hb).1.2.2.2.2.1, (f3 b hb).1.2.2.2.2.2⟩
      have nC : H5 C = none := cL ▸ (show H5 ce.locals = none from I6.free)
      obtain ⟨m, hn, _⟩ := I6.loc
      have hn : s6.heap.Ns C m := cL ▸ (show s6.heap.Ns ce.locals m from hn)
      refine ⟨m, hn, fun h'' sb => ?_⟩
      obtain ⟨g0, g1, g2, g3, g4, g5⟩ := I3.fpOk (Nat.le_of_eq hC) nC
      exact ⟨.ref D, H5, I7.turned (t' := s6.toks) (fun b o hb e => (sb.2 b hb).trans e) g0 g1 g3 g4 g5, rfl, last⟩
    · have item := T.item Y (by subst hY; rfl) (by subst hY; rfl) (by subst hY; rfl) (by subst hY; exact calm) i [] s5 _ H5 (fun _ _ => False) I5 (rest I5 n5) st5 more
      rw [hY] at pg pt pi' pg' pt' pe
      have yA : Y.A = X.A := by subst hY; rfl
      have yP : Y.prog = X.prog := by subst hY; rfl
      have yw : Y.w = X.w := by subst hY; rfl
      subst hY
      refine thnF item fun r s6 ⟨u, hr, h6⟩ => ?_
      subst hr
      refine thnF h6 fun _ s7 ⟨x, H7, I7, r7, y7, st7, n7⟩ => ?_
      refine thnF (pg.run _ s7 _ H7 x u _ (I7.pinned (rest I7 n7) (T.obj _ _ st7)) r7 (step x H7 y7)) fun _ s8 ⟨σ8, H8, I8, hw8, q8⟩ => ?_
      refine thnF (pt.run _ s8 σ8 H8 _ I8 q8) fun b s9 ⟨H9, I9, q9⟩ => ?_
      -- back at the outer walk
      have back : ∀ {σ' : L2.St} {s' : Shared} {H' : Hp}, Inv (X.blk { s2 with heap := s2.heap.push (emptySet X.w) } H3 sc ce fp) ([] ++ pinsAt fp s7.heap) σ' H' s' → σ'.length = σ8.length → (∀ (j : Nat) v, (wipe σ8 (own.map (·.2)))[j]? = some (some v) → σ'[j]? = some (some v)) → Nx H' → ∃ m, m < n ∧ Go m s' := by
        intro σ' s' H' I' len same nx
        obtain ⟨m', hm, w'⟩ := hNx H' nx
        have pin : ∀ b ∈ fp, ∀ o, s7.heap.get? b = some o → s'.heap.get? b = some o ∧ H' b = none := fun b hb o e =>
          let z := I'.pin (b, o) (List.mem_append_right _ (List.mem_append_right _ (mem_pinsAt hb e))); ⟨z.1, z.2.1⟩
        refine ⟨m', hm, ?_⟩
        rw [hGo]
        refine ⟨i + 1, H', (I'.unpinned (pins := [])).weak (by rw [← hw8, wipe_length, len]) (fun j v e => same j v (by rw [hw8]; exact e)), T.keep _ _ _ st7 fun b hb o e => (pin b hb o e).1, fun b hb => ?_, w'⟩
        obtain ⟨o, e, _⟩ := T.obj _ _ st7 b hb
        exact (pin b hb o e).2
      cases b with
      | false =>
        simp only [Bool.false_eq_true, if_false] at q9 ⊢
        exact back I9 rfl (fun j v e => (wipe_some e).1) q9
      | true =>
        simp only [if_true] at q9 ⊢
        refine thnF (pi'.run _ s9 σ8 H9 _ I9 q9) fun yv s10 hx => thnF hx fun itv s11 h11 => ?_
        obtain ⟨it', fp', tn', J', H11, rfl, I11, T', st11, f11, W', ⟨m1, w1⟩, turn'⟩ := h11
        have rest' : ∀ {H' : Hp}, (∀ b ∈ fp', H' b = none) → ∀ b ∈ fp', FpOk (X.blk { s2 with heap := s2.heap.push (emptySet X.w) } H3 sc ce fp) ([] ++ pinsAt fp s7.heap) H' b := fun hn b hb => ⟨hn b hb, (f11 b hb).2⟩
        obtain ⟨Go', hGo'⟩ : ∃ Go' : Nat → Shared → Prop, Go' = fun k s' => ∃ j H', Inv (X.blk { s2 with heap := s2.heap.push (emptySet X.w) } H3 sc ce fp) ([] ++ pinsAt fp s7.heap) (wipe σ8 vs') H' s' ∧ tn' j s'.heap ∧ (∀ b ∈ fp', H' b = none) ∧ W' j k H' := ⟨_, rfl⟩
        have inner : codeAny (model X.prog X.w) X.A (.compLoop (scx elt ta ia fa tb ib fb sc at_) 1 (.ref it') (.ref D) ce)
            (fun r s' => match r with
              | .ok _ => ∃ m, m < n ∧ Go m s'
              | .error _ => False) s11 := by
          refine scx_loopB Go' ?_ m1 (by rw [hGo']; exact ⟨0, H11, I11.weak (wipe_length _ _) (fun j v e => (wipe_some e).1), st11, fun b hb => (f11 b hb).1, w1⟩)
          intro k s12 g12
          rw [hGo'] at g12
          obtain ⟨j, H12, I12, st12, n12, w12⟩ := g12
          rcases turn' j k H12 w12 with ⟨over', nx⟩ | ⟨more', Nx', hNx', step'⟩
          · refine thnF (T'.done (X.blk { s2 with heap := s2.heap.push (emptySet X.w) } H3 sc ce fp) rfl rfl rfl calm j _ s12 (wipe σ8 vs') H12 (fun _ _ => False) I12 (rest' n12) st12 over') fun r s13 ⟨hr, I13⟩ => ?_
            subst hr
            refine back I13 (wipe_length σ8 vs') (fun l v e => ?_) nx
            obtain ⟨e1, e2⟩ := wipe_some e
            rw [wipe_out fun z => e2 (inn l z)]
            exact e1
          · refine thnF (T'.item (X.blk { s2 with heap := s2.heap.push (emptySet X.w) } H3 sc ce fp) rfl rfl rfl calm j _ s12 (wipe σ8 vs') H12 (fun _ _ => False) I12 (rest' n12) st12 more') fun r s13 ⟨u', hr, h13⟩ => ?_
            subst hr
            refine thnF h13 fun _ s14 ⟨x', H14, I14, r14, y14, st14, n14⟩ => ?_
            refine thnF (pg'.run _ s14 (wipe σ8 vs') H14 x' u' _ (I14.pinned (rest' n14) (T'.obj _ _ st14)) r14 (step' x' H14 y14)) fun _ s15 ⟨σ15, H15, I15, hw15, q15⟩ => ?_
            refine thnF (pt'.run _ s15 σ15 H15 _ I15 q15) fun b' s16 ⟨H16, I16, q16⟩ => ?_
            have back' : ∀ {s' : Shared} {H' : Hp}, Inv (X.blk { s2 with heap := s2.heap.push (emptySet X.w) } H3 sc ce fp) (([] ++ pinsAt fp s7.heap) ++ pinsAt fp' s14.heap) σ15 H' s' → Nx' H' → ∃ m, m < k ∧ Go' m s' := by
              intro s' H' I' nx
              obtain ⟨m', hm, w'⟩ := hNx' H' nx
              have pin : ∀ b ∈ fp', ∀ o, s14.heap.get? b = some o → s'.heap.get? b = some o ∧ H' b = none := fun b hb o e =>
                let z := I'.pin (b, o) (List.mem_append_right _ (List.mem_append_right _ (mem_pinsAt hb e))); ⟨z.1, z.2.1⟩
              refine ⟨m', hm, ?_⟩
              rw [hGo']
              refine ⟨j + 1, H', I'.unpinned.weak (by rw [← hw15, wipe_length]) (fun l v e => by rw [← hw15] at e; exact (wipe_some e).1), T'.keep _ _ _ st14 fun b hb o e => (pin b hb o e).1, fun b hb => ?_, w'⟩
              obtain ⟨o, e, _⟩ := T'.obj _ _ st14 b hb
              exact (pin b hb o e).2
            cases b' with
            | false => simp only [Bool.false_eq_true, if_false] at q16 ⊢; exact back' I16 q16
            | true =>
              simp only [if_true] at q16 ⊢
              refine thnF (pe.run _ s16 σ15 H16 _ I16 q16) fun z s17 ⟨yv, H17, I17, r17, num, S0, c0, ey, hD17, few, nx⟩ => ?_
              subst ey
              obtain ⟨t, rfl⟩ := r17
              exact putInt (X := X.blk _ H3 sc ce fp) I17 hD17 few fun s18 I18 => back' I18 nx
        exact scx_startB inner (T'.self X.A 0 _ _ _ st11 inner)
  exact codeAny_compStart_set round (T.self X.A 0 _ _ _ st4 round)
end
end Rp

/-! ATOMs: their variables, a BINDING put into them. -/
namespace Rp
open PySem PySem.Spec PyProof.Rows L2 TL NdefX LamX StX PpSet
theorem walk_tup {K : PySem.W.Frag} {a : Addr} {xs : List V} {B : V → Hp → (Hp → Prop) → Prop} {H1 : Hp} {Done : Hp → Prop} (Pv : Nat → Hp → Prop) (h0 : Pv 0 H1) (hl : ∀ i H, i ≤ xs.length → Pv i H → SqT K H a xs)
    (hs : ∀ i x H, xs[i]? = some x → Pv i H → B x H (Pv (i + 1))) (hd : ∀ H, Pv xs.length H → Done H) :
    ∃ W : Nat → Nat → Hp → Prop, (∃ m, W 0 m H1) ∧ ∀ i m H, W i m H →
      ((Itt K a).stop i H ∧ Done H) ∨ ((Itt K a).go i H ∧ ∃ Nx : Hp → Prop, (∀ H', Nx H' → ∃ m', m' < m ∧ W (i + 1) m' H') ∧ ∀ x H', (Itt K a).yld i H x H' → B x H' Nx) := by
  refine ⟨fun i m H => m = xs.length - i ∧ i ≤ xs.length ∧ Pv i H, ⟨xs.length, by simp, Nat.zero_le _, h0⟩, ?_⟩
  rintro i m H ⟨rfl, hi, p⟩
  have q := hl i H hi p
  by_cases hlt : i < xs.length
  · refine .inr ⟨⟨xs, xs[i], q, by simp [hlt]⟩, Pv (i + 1), fun H' p' => ⟨xs.length - (i + 1), by omega, rfl, hlt, p'⟩, fun x H' y => ?_⟩
    obtain ⟨e, y⟩ := y
    subst e
    exact hs i x _ (y xs q) p
  · have e : i = xs.length := by omega
    subst e
    exact .inl ⟨⟨xs, q, Nat.le_refl _⟩, hd H p⟩
theorem walk_lst {K : PySem.W.Frag} {a : Addr} {xs : List V} {B : V → Hp → (Hp → Prop) → Prop} {H1 : Hp} {Done : Hp → Prop} (Pv : Nat → Hp → Prop) (h0 : Pv 0 H1) (hl : ∀ i H, i ≤ xs.length → Pv i H → SqL K H a xs)
    (hs : ∀ i x H, xs[i]? = some x → Pv i H → B x H (Pv (i + 1))) (hd : ∀ H, Pv xs.length H → Done H) :
    ∃ W : Nat → Nat → Hp → Prop, (∃ m, W 0 m H1) ∧ ∀ i m H, W i m H →
      ((Itl K a).stop i H ∧ Done H) ∨ ((Itl K a).go i H ∧ ∃ Nx : Hp → Prop, (∀ H', Nx H' → ∃ m', m' < m ∧ W (i + 1) m' H') ∧ ∀ x H', (Itl K a).yld i H x H' → B x H' Nx) := by
  refine ⟨fun i m H => m = xs.length - i ∧ i ≤ xs.length ∧ Pv i H, ⟨xs.length, by simp, Nat.zero_le _, h0⟩, ?_⟩
  rintro i m H ⟨rfl, hi, p⟩
  have q := hl i H hi p
  by_cases hlt : i < xs.length
  · refine .inr ⟨⟨xs, xs[i], q, by simp [hlt]⟩, Pv (i + 1), fun H' p' => ⟨xs.length - (i + 1), by omega, rfl, hlt, p'⟩, fun x H' y => ?_⟩
    obtain ⟨e, y⟩ := y
    subst e
    exact hs i x _ (y xs q) p
  · have e : i = xs.length := by omega
    subst e
    exact .inl ⟨⟨xs, q, Nat.le_refl _⟩, hd H p⟩
/-- an ATOM stands as the value v -/
def AmAt (H : Hp) (v : V) (p : Str) (ts : List Tm) : Prop := ∃ (a : Addr) (xs : List V), v = .ref a ∧ H a = some (.tup (.str p :: xs)) ∧ AllAt H xs ts
theorem AmAt.mono {H H' : Hp} {v : V} {p : Str} {ts : List Tm} (e : ∀ a xs, H a = some (.tup xs) → H' a = some (.tup xs)) : AmAt H v p ts → AmAt H' v p ts := fun ⟨a, xs, h1, h2, h3⟩ => ⟨a, xs, h1, e _ _ h2, h3.mono e⟩
/-- all but D and the tables stays -/
structure ExtB (T : List NTab) (D : Addr) (H H' : Hp) : Prop where
  ext : ∀ c o, H c = some o → c ≠ D → (∀ ps, o ≠ .tbl ps) → H' c = some o
  tab : TabsN T H'
theorem code_lst {c : Addr} {q : Str} {xs : List V} : CodeO c q ≠ .lst xs := fun z => by unfold CodeO at z; cases z
theorem tabs_but {T : List NTab} {H H' : Hp} {D : Addr} {xs : List V} (t : TabsN T H) (hD : H D = some (.lst xs)) (o : But D H H') : TabsN T H' := fun p hp => by
  obtain ⟨ps, h1, h2, h3⟩ := t p hp
  refine ⟨ps, o _ _ h1 (ne_of h1 hD (by intro z; cases z)), h2, fun pos cv hc => ?_⟩
  obtain ⟨c, e1, e2⟩ := h3 pos cv hc
  exact ⟨c, e1, o _ _ e2 (ne_of e2 hD code_lst)⟩
theorem ExtB.refl {T : List NTab} {D : Addr} {H : Hp} (t : TabsN T H) : ExtB T D H H := ⟨fun _ _ h _ _ => h, t⟩
theorem ExtB.trans {T : List NTab} {D : Addr} {H H1 H2 : Hp} (a : ExtB T D H H1) (b : ExtB T D H1 H2) : ExtB T D H H2 := ⟨fun c o h n m => b.ext c o (a.ext c o h n m) n m, b.tab⟩
theorem Ext.toB {T : List NTab} {D : Addr} {H H' : Hp} (e : Ext T H H') : ExtB T D H H' := ⟨fun c o h _ m => e.ext c o h m, e.tab⟩
theorem ExtB.but {T : List NTab} {D : Addr} {xs : List V} {H H' : Hp} (t : TabsN T H) (hD : H D = some (.lst xs)) (o : But D H H') : ExtB T D H H' := ⟨fun c u h n _ => o c u h n, tabs_but t hD o⟩
theorem ExtB.same {T : List NTab} {D : Addr} {H H' : Hp} (t : TabsN T H) (s : Same H H') : ExtB T D H H' := ⟨fun c u h _ _ => s c u h, t.ext s⟩
theorem ExtB.tups {T : List NTab} {D : Addr} {xs : List V} {H H' : Hp} (e : ExtB T D H H') (hD : H D = some (.lst xs)) : Tups H H' :=
  ⟨fun _ _ h => e.ext _ _ h (ne_of h hD (by intro z; cases z)) (fun _ z => by cases z), fun _ _ _ h => e.ext _ _ h (ne_of h hD (by intro z; cases z)) (fun _ z => by cases z)⟩
theorem ExtB.lst {T : List NTab} {D : Addr} {H H' : Hp} (e : ExtB T D H H') {a : Addr} {xs : List V} (h : H a = some (.lst xs)) (n : a ≠ D) : H' a = some (.lst xs) := e.ext _ _ h n fun _ z => by cases z
theorem nums_half : ∀ t : Tm, 2 * t.nums.length ≤ t.size + 1
  | .v n => by simp [Tm.nums, Tm.size]
  | .z => by simp [Tm.nums, Tm.size]
  | .s t => by have := nums_half t; simp only [Tm.nums, Tm.size]; omega
  | .f l r => by have := nums_half l; have := nums_half r; simp only [Tm.nums, Tm.size, List.length_append]; omega
theorem rising_few {ns ms : List Int} (h : ns.Pairwise (· < ·)) (sub : ∀ k ∈ ns, k ∈ ms) : ns.length ≤ ms.length := by
  induction ns generalizing ms with
  | nil => exact Nat.zero_le _
  | cons n r ih =>
    obtain ⟨h1, h2⟩ := List.pairwise_cons.mp h
    have hn := sub n (by simp)
    have := ih (ms := ms.erase n) h2 fun k hk => (List.mem_erase_of_ne (by have := h1 k hk; omega)).mpr (sub k (by simp [hk]))
    rw [List.length_erase_of_mem hn] at this
    have : 0 < ms.length := List.length_pos_of_mem hn
    simp only [List.length_cons]
    omega
def spAVars : Sp := fun vs H Q _ => ∃ (v : V) (p : Str) (ts : List Tm), vs = [v] ∧ AmAt H v p ts ∧ ts.length ≤ 2 ∧ (∀ t ∈ ts, t.size ≤ 40) ∧ ∀ (g : Addr) (ns : List Int) (H' : Hp), H g = none → H' g = some (.lst (ns.map V.int)) → ns.Pairwise (· < ·) → (∀ k, k ∈ ns ↔ k ∈ ts.flatMap Tm.nums) → Same H H' → Q (.ref g) H'
def spAPut (T : List NTab) : Sp := fun vs H Q _ => ∃ (v : V) (p : Str) (ts : List Tm) (a : Addr) (bd : Bd), vs = [v, .ref a] ∧ AmAt H v p ts ∧ ts.length ≤ 2 ∧ (∀ t ∈ ts, t.size ≤ 1000) ∧ BdAt H a bd ∧ TabsN T H ∧
  ∀ (v' : V) (H' : Hp), AmAt H' v' p (ts.map (Tm.put bd)) → Ext T H H' → Q v' H'
abbrev NAV : List Str := ["atom", "term", "variable"]
abbrev NAP : List Str := ["atom", "binding", "term"]
section
variable {P : Program} {w : World} {K : PySem.W.Frag} {mg : Str → Option Value} {base : Heap}
theorem scAV : FnScope NAV ["atom"] (defScope sAtomVars) := ⟨rfl, rfl, rfl, by decide +kernel, rfl, by decide +kernel, by decide +kernel⟩
theorem scAP : FnScope NAP ["atom", "binding"] (defScope sAtomPut) := ⟨rfl, rfl, rfl, by decide +kernel, rfl, by decide +kernel, by decide +kernel⟩
def teVars : TE := fun σ H Q => tCons (tVar 1) tNil σ H fun vs H1 => spVars vs H1 Q E0
theorem ok_avars {f fV : Addr} {fd dV : FuncData} (F : Fun K "atom_variables" "atom_variables" sAtomVars f fd) (GV : FnOk P w K mg base CX0 3 fV dV ["term"] spVars) (kV : PySem.W.keepIn K (.ref fV) = true) (bV : Binds K dV ["term"] []) (mV : mg "variables" = some (.ref fV))
    (mSorted : mg "sorted" = none) : FnOk P w K mg base CX0 4 f fd ["atom"] spAVars := by
  refine F.ok scAV (fun vs H Q E h => ?_) (fun cdv A outer s H vs Q E hr h => ?_)
  · obtain ⟨v, p, ts, rfl, _⟩ := h
    rfl
  obtain ⟨v, p, ts, rfl, ⟨a, xs, rfl, ha, AT⟩, t2, tz, q⟩ := h
  refine ⟨_, pss_one (ps_ret (pe_callB (cr_sortedSet rfl) (by rfl) mSorted (by decide +kernel) (pa_cons (pe_scI2 (own := [("term", 1), ("variable", 2)]) (vs' := [2]) (g := gName 1) (tt := tYes) (wi' := iList K teVars) (g' := gName 2) (tt' := tYes) (te := tVar 2) rfl scAV.nd
      (pi_tup (pe_slice sl_tup (pv 0) (po_some pe_int) po_none)) (blkOk_by (N := NAV) (sc := defScope sAtomVars) (by decide +kernel)) (by decide) (fun _ _ _ _ _ => pg_name (i := 1) scAV.nd rfl (Or.inl rfl)) (fun _ _ _ _ _ => pts_nil)
      (fun _ _ _ _ _ => pi_list (pe_call GV hr (by rfl) mV kV bV .nil pass0 (pa_cons (pv 1) pa_nil))) (fun _ _ _ _ _ => pg_name (i := 2) scAV.nd rfl (Or.inl rfl)) (fun _ _ _ _ _ => pts_nil)
      (fun _ _ _ _ _ => pv 2)) pa_nil))), ?_⟩
  refine ⟨_, rfl, 1, rfl, a, _, rfl, .inl (.inl ha), cut_part _ _, fun g hg => ?_⟩
  rw [cut_tail]
  have s1 := same_new hg (.tup xs)
  have xl := AT.len
  have hgg : (upd H g (.tup xs)) g = some (.tup xs) := upd_same
  generalize hH1 : upd H g (.tup xs) = H1 at s1 hgg
  refine ⟨g, rfl, ⟨_, .inl (.inl hgg)⟩, fun D hD => walk_tup (K := K) (a := g) (xs := xs) (fun i H2 => ∃ (S : Int → Bool) (n : Nat), H2 D = some (SetO w D S n) ∧ n ≤ 20 * i ∧ (∀ k, S k = true ↔ k ∈ (ts.take i).flatMap Tm.nums) ∧ Same H1 H2)
    ⟨_, 0, upd_same, Nat.le_refl _, fun k => by simp, same_new hD _⟩ (fun i H2 _ ⟨_, _, _, _, _, z⟩ => .inl (.inl (z _ _ hgg))) ?_ ?_⟩
  · rintro i x H2 hi ⟨S, n, hS, hn, hm, hk⟩
    obtain ⟨t, ht, Tx⟩ := AT.get hi
    have tz1 := tz t (List.mem_of_getElem? ht)
    have li : i < xs.length := (List.getElem?_eq_some_iff.mp hi).1
    refine ⟨rfl, ?_⟩
    unfold teVars
    refine ⟨_, rfl, x, t, rfl, Tx.same (s1.trans hk), by omega, fun l ns H3 hl h3 up mem s3 => ?_⟩
    have few := rising_few up fun k hk => (mem k).1 hk
    have half := nums_half t
    have lD : l ≠ D := (ne_of_none hS hl).symm
    have lim : (100 : Nat) < scanBound := by decide
    refine ⟨l, rfl, ⟨_, .inl (.inl h3)⟩, walk_lst (K := K) (a := l) (xs := ns.map V.int) (fun j H4 => ∃ (S' : Int → Bool) (n' : Nat), H4 D = some (SetO w D S' n') ∧ n' ≤ n + j ∧ (∀ k, S' k = true ↔ (k ∈ (ts.take i).flatMap Tm.nums ∨ k ∈ ns.take j)) ∧ But D H3 H4)
      ⟨S, n, s3 _ _ hS, by omega, fun k => by rw [hm k]; simp, But.refl _ _⟩ (fun j H4 _ ⟨_, _, _, _, _, z⟩ => .inl (.inl (z _ _ h3 lD))) ?_ ?_⟩
    · rintro j y H4 hj ⟨S', n', hS', hn', hm', o4⟩
      rw [List.getElem?_map] at hj
      obtain ⟨m, hm1, rfl⟩ : ∃ m, ns[j]? = some m ∧ y = .int m := by
        cases e : ns[j]? with
        | none => rw [e] at hj; cases hj
        | some m => rw [e] at hj; exact ⟨m, rfl, (by simpa using hj.symm)⟩
      have lj : j < ns.length := (List.getElem?_eq_some_iff.mp hm1).1
      refine ⟨rfl, _, rfl, m, S', n', rfl, hS', Nat.lt_of_le_of_lt (by omega : n' + 1 ≤ 100) lim, ?_⟩
      refine ⟨_, _, upd_same, ?_, fun k => ?_, fun c o z nc => ?_⟩
      · split <;> omega
      · have tk : ns.take (j + 1) = ns.take j ++ [m] := by rw [List.take_add_one, hm1]; rfl
        rw [tk, Bool.or_eq_true, hm' k, List.mem_append, List.mem_singleton, decide_eq_true_eq, or_assoc]
      · rw [upd_ne nc]; exact o4 _ _ z nc
    · rintro H4 ⟨S', n', hS', hn', hm', o4⟩
      rw [List.length_map] at hn' hm'
      have tk : ts.take (i + 1) = ts.take i ++ [t] := by rw [List.take_add_one, ht]; rfl
      refine ⟨S', n', hS', by omega, fun k => ?_, fun c o z => o4 _ _ (s3 _ _ (hk _ _ z)) (ne_of_none z hD)⟩
      rw [hm' k, List.take_length, tk, List.flatMap_append, List.mem_append, mem k]
      simp
  · rintro H2 ⟨S, n, hS, hn, hm, hk⟩
    refine ⟨D, S, n, rfl, hS, by omega, fun ns p2 up mem len hp2 => ?_⟩
    refine q p2 ns _ ?_ upd_same up (fun k => ?_) ((s1.trans hk).trans (same_new hp2 _))
    · exact same_none (s1.trans hk) _ hp2
    · rw [mem k, hm k, xl, List.take_length]
def tePut (K : PySem.W.Frag) (T : List NTab) : TE := fun σ H Q => tCons (tVar 2) (tCons (tVar 1) tNil) σ H fun vs H1 => spPut T vs H1 Q E0
theorem ok_aput {T : List NTab} {f fU : Addr} {fd dU : FuncData} (F : Fun K "atom_put" "atom_put" sAtomPut f fd) (GU : FnOk P w K mg base CX0 4 fU dU ["term", "binding"] (spPut T)) (kU : PySem.W.keepIn K (.ref fU) = true) (bU : Binds K dU ["term", "binding"] []) (mU : mg "put" = some (.ref fU)) :
    FnOk P w K mg base CX0 5 f fd ["atom", "binding"] (spAPut T) := by
  refine F.ok scAP (fun vs H Q E h => ?_) (fun cdv A outer s H vs Q E hr h => ?_)
  · obtain ⟨v, p, ts, a, bd, rfl, _⟩ := h
    rfl
  obtain ⟨v, p, ts, ab, bd, rfl, ⟨a, xs, rfl, ha, AT⟩, t2, tz, B, hT, q⟩ := h
  refine ⟨_, pss_one (ps_ret (pe_tup (pa_cons (pe_ix ix_tup (pv 0) pe_int (fun _ _ => rfl)) (pa_star (pe_lc (own := [("term", 2)]) (g := gName 2) (tt := tYes) (te := tePut K T) rfl scAP.nd (pi_tup (pe_slice sl_tup (pv 0) (po_some pe_int) po_none))
      (blkOk_by (N := NAP) (sc := defScope sAtomPut) (by decide +kernel)) (fun _ _ _ _ _ => pg_name (i := 2) scAP.nd rfl (Or.inl rfl)) (fun _ _ _ _ _ => pts_nil)
      (fun _ _ _ _ _ => pe_call GU hr (by rfl) mU kU bU .nil pass0 (pa_cons (pv 2) (pa_cons (pv 1) pa_nil)))) pa_nil)))), ?_⟩
  refine ⟨_, rfl, _, _, _, _, rfl, rfl, .inl (.inl ha), at_of (j := 0) rfl rfl, ?_⟩
  refine ⟨_, rfl, 1, rfl, a, _, rfl, .inl (.inl ha), cut_part _ _, fun g hg => ?_⟩
  rw [cut_tail]
  have s1 := same_new hg (.tup xs)
  have xl := AT.len
  have hgg : (upd H g (.tup xs)) g = some (.tup xs) := upd_same
  generalize hH1 : upd H g (.tup xs) = H1 at s1 hgg
  refine ⟨g, rfl, ⟨_, .inl (.inl hgg)⟩, fun D hD => walk_tup (K := K) (a := g) (xs := xs) (fun i H2 => ∃ ys : List V, H2 D = some (.lst ys) ∧ AllAt H2 ys ((ts.take i).map (Tm.put bd)) ∧ ys.length = i ∧ ExtB T D (upd H1 D (.lst [])) H2 ∧ ∀ b, H2 b = none → H b = none)
    ⟨[], upd_same, trivial, rfl, ExtB.refl ((hT.ext s1).ext (same_new hD _)), fun b z => same_none (s1.trans (same_new hD _)) b z⟩ (fun i H2 _ ⟨_, _, _, _, e, _⟩ => .inl (.inl ((e.tups upd_same).1 _ _ ((same_new hD _) _ _ hgg)))) ?_ ?_⟩
  · rintro i x H2 hi ⟨ys, h2, A2, yl, e2, nn⟩
    obtain ⟨t, ht, Tx⟩ := AT.get hi
    have li : i < xs.length := (List.getElem?_eq_some_iff.mp hi).1
    have u2 : Tups H H2 := (Tups.same (s1.trans (same_new hD _))).trans (e2.tups upd_same)
    have tk : ts.take (i + 1) = ts.take i ++ [t] := by rw [List.take_add_one, ht]; rfl
    refine ⟨rfl, ?_⟩
    unfold tePut
    refine ⟨_, rfl, _, rfl, x, t, ab, bd, rfl, Tx.mono u2.1, tz t (List.mem_of_getElem? ht), B.mono u2, e2.tab, fun v' H3 T3 e3 => ?_⟩
    have h3 := e3.lst h2
    have u4 : Tups H3 (upd H3 D (.lst (ys ++ [v']))) := Tups.but (but_upd _) h3
    have big : (10 : Nat) < sizeLine := by decide
    refine ⟨ys, h3, by omega, ys ++ [v'], upd_same, ?_, by rw [List.length_append, yl]; rfl, (e2.trans e3.toB).trans (ExtB.but e3.tab h3 (but_upd _)), fun b z => nn b (e3.nn b (upd_none z))⟩
    rw [tk, List.map_append]
    exact ((A2.mono e3.tups.1).mono u4.1).append ⟨T3.mono u4.1, trivial⟩
  · rintro H2 ⟨ys, h2, A2, yl, e2, nn⟩
    rw [xl, List.take_length] at A2
    have u2 : Tups H H2 := (Tups.same (s1.trans (same_new hD _))).trans (e2.tups upd_same)
    refine ⟨D, ys, rfl, .inr (.inl (.inl h2)), ?_, fun c hc => ?_⟩
    · have := A2.len
      rw [List.length_map] at this
      have big : (10 : Nat) < sizeLine := by decide
      show (_ :: (ys ++ [])).length ≤ _
      rw [List.append_nil, List.length_cons]; omega
    · have s3 := same_new hc (.tup (V.str p :: (ys ++ [])))
      refine q (.ref c) _ ⟨c, ys, rfl, by rw [upd_same, List.append_nil], A2.mono (Tups.same s3).1⟩ ⟨fun b o z m => ?_, e2.tab.ext s3, fun b z => nn b (upd_none z)⟩
      have z1 := s1 _ _ z
      exact s3 _ _ (e2.ext _ _ ((same_new hD _) _ _ z1) (ne_of_none z1 hD) m)
end
end Rp

/-! Data that repr shows: how large it is. -/
namespace Rp
open PySem PySem.Spec PyProof.Rows L2
structure Gd (n k : Nat) (d : PyData) : Prop where
  lay : d.canLay0 = true
  sh : d.showable = true
  is : d.intsShort 13 = true
  nd : d.hasDict = false
  wt : d.weight + 1 ≤ n
  dp : d.depth ≤ k
structure GdA (n k : Nat) (d : List PyData) : Prop where
  lay : PyData.canLayAll0 d = true
  sh : PyData.showableAll d = true
  is : PyData.intsShortAll 13 d = true
  nd : PyData.hasDictAll d = false
  wt : PyData.weightAll d ≤ n
  dp : PyData.depthAll d ≤ k
theorem Gd.more {n k n' k' : Nat} {d : PyData} (h : Gd n k d) (hn : n ≤ n') (hk : k ≤ k') : Gd n' k' d := ⟨h.lay, h.sh, h.is, h.nd, Nat.le_trans h.wt hn, Nat.le_trans h.dp hk⟩
theorem GdA.more {n k n' k' : Nat} {d : List PyData} (h : GdA n k d) (hn : n ≤ n') (hk : k ≤ k') : GdA n' k' d := ⟨h.lay, h.sh, h.is, h.nd, Nat.le_trans h.wt hn, Nat.le_trans h.dp hk⟩
theorem gda_nil (k : Nat) : GdA 0 k [] := ⟨rfl, rfl, rfl, rfl, by decide, by simp [PyData.depthAll]⟩
theorem GdA.cons {n m k : Nat} {d : PyData} {ds : List PyData} (h : Gd n k d) (h' : GdA m k ds) : GdA (n + m) k (d :: ds) := by
  refine ⟨?_, ?_, ?_, ?_, ?_, ?_⟩
  · simp only [PyData.canLayAll0, h.lay, h'.lay]; rfl
  · simp only [PyData.showableAll, h.sh, h'.sh]; rfl
  · simp only [PyData.intsShortAll, h.is, h'.is]; rfl
  · simp only [PyData.hasDictAll, h.nd, h'.nd]; rfl
  · have := h.wt; have := h'.wt; simp only [PyData.weightAll]; omega
  · have := h.dp; have := h'.dp; simp only [PyData.depthAll]; omega
theorem GdA.tup {n k : Nat} {ds : List PyData} (h : GdA n k ds) : Gd (n + 1) (k + 1) (.tuple ds) := by
  refine ⟨?_, ?_, ?_, ?_, ?_, ?_⟩
  · simp only [PyData.canLay0, h.lay]
  · simp only [PyData.showable, h.sh]
  · simp only [PyData.intsShort, h.is]
  · simp only [PyData.hasDict, h.nd]
  · have := h.wt; simp only [PyData.weight]; omega
  · have := h.dp; simp only [PyData.depth]; omega
theorem gda_map {α : Type} {f : α → PyData} {n k : Nat} : ∀ {l : List α}, (∀ x ∈ l, Gd n k (f x)) → GdA (n * l.length) k (l.map f)
  | [], _ => gda_nil k
  | x :: l, h => by
    have ih := gda_map (l := l) fun y hy => h y (by simp [hy])
    refine ((h x (by simp)).more (Nat.le_refl _) (Nat.le_refl _) |> fun a => GdA.cons a ih).more ?_ (Nat.le_refl _)
    rw [List.length_cons, Nat.mul_add]; omega
theorem gd_int {i : Int} (h : i.natAbs ≤ 9999999999) : Gd 36 1 (.int i) := by
  have lg : i.natAbs.log2 ≤ 34 := by
    by_cases h0 : i.natAbs = 0
    · rw [h0]; decide
    · exact Nat.le_of_lt_succ ((Nat.log2_lt h0).mpr (by omega))
  refine ⟨rfl, ?_, ?_, rfl, ?_, by simp [PyData.depth]⟩
  · simp only [PyData.showable, decide_eq_true_eq]; omega
  · simp only [PyData.intsShort, decide_eq_true_eq]; exact PyData.shown_int_le (by omega)
  · simp only [PyData.weight]; split <;> omega
theorem GdA.lst {n k : Nat} {ds : List PyData} (h : GdA n k ds) : Gd (n + 1) (k + 1) (.list ds) := by
  refine ⟨?_, ?_, ?_, ?_, ?_, ?_⟩
  · simp only [PyData.canLay0, h.lay]
  · simp only [PyData.showable, h.sh]
  · simp only [PyData.intsShort, h.is]
  · simp only [PyData.hasDict, h.nd]
  · have := h.wt; simp only [PyData.weight]; omega
  · have := h.dp; simp only [PyData.depth]; omega
theorem Gd.shown {n k : Nat} {d : PyData} (g : Gd n k d) (hn : n ≤ 1000000) (hk : k ≤ 64) : d.showable = true ∧ d.hasDict = false ∧ d.depth ≤ 64 ∧ d.shown.length ≤ sizeLine := by
  have w := g.wt
  have k := g.dp
  refine ⟨g.sh, g.nd, by omega, Nat.le_trans (shown_le13 ?_ g.is) (by decide)⟩
  unfold PyData.layable0
  rw [g.lay, decide_eq_true (by omega : d.depth ≤ 64), decide_eq_true (by omega : d.weight ≤ 2 ^ 20)]
  rfl
end Rp

/-! TERMs as data: what is shown, what is alike. -/
namespace Rp
open PySem PySem.Spec PyProof.Rows L2 TL
def tmD : Tm → PyData
  | .v n => .int n
  | .z => .tuple [.str "0"]
  | .s t => .tuple [.str "s", tmD t]
  | .f l r => .tuple [.str "f", tmD l, tmD r]
theorem tm_dp {K : PySem.W.Frag} {H : Hp} {v : V} {t : Tm} (h : TmAt H v t) : Dp K H v (tmD t) := by
  induction h with
  | v n => exact .int n
  | z h => exact .tup (.inl (.inl h)) (.cons (.str _) .nil)
  | s h _ ih => exact .tup (.inl (.inl h)) (.cons (.str _) (.cons ih .nil))
  | f h _ _ ih ih' => exact .tup (.inl (.inl h)) (.cons (.str _) (.cons ih (.cons ih' .nil)))
theorem all_dp {K : PySem.W.Frag} {H : Hp} : ∀ {xs : List V} {ts : List Tm}, AllAt H xs ts → DpAll K H xs (ts.map tmD)
  | [], [], _ => .nil
  | _ :: _, _ :: _, h => .cons (tm_dp h.1) (all_dp h.2)
theorem name_lay {x : Str} (h : NameOk x) : PyData.canLay0 (.str x) = true := by
  show x.cps.all (· < 0x110000) = true
  rw [Array.all_eq_true']
  intro c hc
  have := h.low c (Array.mem_toList_iff.mpr hc)
  exact decide_eq_true (by omega)
theorem gd_str {x : Str} (h : PyData.canLay0 (.str x) = true) (l : x.length ≤ 6) : Gd 7 1 (.str x) :=
  ⟨h, rfl, rfl, rfl, by simp only [PyData.weight]; show x.length + 1 ≤ 7; omega, by simp [PyData.depth]⟩
theorem gd_tm : ∀ t : Tm, t.small → Gd (8 * t.size) (t.deep + 1) (tmD t)
  | .v n, h => by
    have h := h n (by simp [Tm.nums])
    have g := gd_int (i := n) (by omega)
    have lg : n.natAbs.log2 ≤ 6 := by
      by_cases h0 : n.natAbs = 0
      · rw [h0]; decide
      · exact Nat.le_of_lt_succ ((Nat.log2_lt h0).mpr (by show n.natAbs < 2 ^ 7; omega))
    exact ⟨g.lay, g.sh, g.is, g.nd, by simp only [tmD, PyData.weight, Tm.size]; split <;> omega, by simp [tmD, PyData.depth]⟩
  | .z, _ => (((GdA.cons (gd_str (x := "0") (by decide +kernel) (by decide +kernel)) (gda_nil 1)).tup).more (by decide) (by decide) : Gd 8 2 _) |> fun g => ⟨g.lay, g.sh, g.is, g.nd, g.wt, by simp [tmD, PyData.depth, PyData.depthAll]⟩
  | .s t, h => by
    have ih := gd_tm t h
    have a : PyData.canLay0 (.str "s") = true := by decide +kernel
    have l : ("s" : Str).cps.size = 1 := by decide +kernel
    have w := ih.wt
    have dp := ih.dp
    refine ⟨?_, ?_, ?_, ?_, ?_, ?_⟩
    · simp only [tmD, PyData.canLay0, PyData.canLayAll0, Bool.and_true, Bool.and_eq_true]; exact ⟨by simpa [PyData.canLay0] using a, ih.lay⟩
    · simp only [tmD, PyData.showable, PyData.showableAll, ih.sh]; rfl
    · simp only [tmD, PyData.intsShort, PyData.intsShortAll, ih.is]; rfl
    · simp only [tmD, PyData.hasDict, PyData.hasDictAll, ih.nd]; rfl
    · simp only [tmD, PyData.weight, PyData.weightAll, Tm.size, l]; omega
    · simp only [tmD, PyData.depth, PyData.depthAll, Tm.deep]; omega
  | .f t u, h => by
    have ih := gd_tm t fun n hn => h n (by simp [Tm.nums, hn])
    have ih2 := gd_tm u fun n hn => h n (by simp [Tm.nums, hn])
    have a : PyData.canLay0 (.str "f") = true := by decide +kernel
    have l : ("f" : Str).cps.size = 1 := by decide +kernel
    have w := ih.wt
    have dp := ih.dp
    have w2 := ih2.wt
    have dp2 := ih2.dp
    refine ⟨?_, ?_, ?_, ?_, ?_, ?_⟩
    · simp only [tmD, PyData.canLay0, PyData.canLayAll0, Bool.and_true, Bool.and_eq_true]; exact ⟨by simpa [PyData.canLay0] using a, ih.lay, ih2.lay⟩
    · simp only [tmD, PyData.showable, PyData.showableAll, ih.sh, ih2.sh]; rfl
    · simp only [tmD, PyData.intsShort, PyData.intsShortAll, ih.is, ih2.is]; rfl
    · simp only [tmD, PyData.hasDict, PyData.hasDictAll, ih.nd, ih2.nd]; rfl
    · simp only [tmD, PyData.weight, PyData.weightAll, Tm.size, l]; omega
    · simp only [tmD, PyData.depth, PyData.depthAll, Tm.deep]; omega
theorem alike_plain {H : Hp} {n : Nat} {x : V} (p : Plain x) : Alike H n x x := by
  cases n with
  | zero => unfold Alike; exact ⟨p, rfl⟩
  | succ n => unfold Alike; exact .inl ⟨p, rfl⟩
theorem alike_tm {H : Hp} : ∀ {t : Tm} {n : Nat} {x y : V}, TmAt H x t → TmAt H y t → t.deep < n → Alike H n x y
  | .v m, n, _, _, .v _, .v _, _ => alike_plain trivial
  | .z, n + 1, _, _, .z h, .z h', _ => by
    unfold Alike
    refine .inr ⟨_, _, _, _, rfl, rfl, .inr ⟨h, h'⟩, rfl, by simp, fun i u v h1 h2 => ?_⟩
    obtain rfl : u = v := Option.some.inj (h1.symm.trans h2)
    match i with
    | 0 => simp at h1; subst h1; exact alike_plain trivial
    | i + 1 => simp at h1
  | .s t, n + 1, _, _, .s h q, .s h' q', hd => by
    unfold Alike
    refine .inr ⟨_, _, _, _, rfl, rfl, .inr ⟨h, h'⟩, rfl, by simp, fun i u v h1 h2 => ?_⟩
    match i with
    | 0 => simp at h1 h2; subst h1 h2; exact alike_plain trivial
    | 1 => simp at h1 h2; subst h1 h2; exact alike_tm q q' (by simp only [Tm.deep] at hd; omega)
    | i + 2 => simp at h1
  | .f l r, n + 1, _, _, .f h q1 q2, .f h' q1' q2', hd => by
    unfold Alike
    simp only [Tm.deep] at hd
    refine .inr ⟨_, _, _, _, rfl, rfl, .inr ⟨h, h'⟩, rfl, by simp, fun i u v h1 h2 => ?_⟩
    match i with
    | 0 => simp at h1 h2; subst h1 h2; exact alike_plain trivial
    | 1 => simp at h1 h2; subst h1 h2; exact alike_tm q1 q1' (by omega)
    | 2 => simp at h1 h2; subst h1 h2; exact alike_tm q2 q2' (by omega)
    | i + 3 => simp at h1
theorem alike_all {H : Hp} {n : Nat} : ∀ {ts : List Tm} {xs ys : List V}, AllAt H xs ts → AllAt H ys ts → (∀ t ∈ ts, t.deep < n) → ∀ (i : Nat) (u v : V), xs[i]? = some u → ys[i]? = some v → Alike H n u v
  | [], [], [], _, _, _, i, u, v, h, _ => by simp at h
  | t :: ts, x :: xs, y :: ys, A, B, hd, 0, u, v, h, h' => by
    obtain rfl : x = u := by simpa using h
    obtain rfl : y = v := by simpa using h'
    exact alike_tm A.1 B.1 (hd t (by simp))
  | t :: ts, x :: xs, y :: ys, A, B, hd, i + 1, u, v, h, h' => alike_all A.2 B.2 (fun s hs => hd s (by simp [hs])) i u v (by simpa using h) (by simpa using h')
theorem shaped_gd {n k : Nat} {d : PyData} (g : Gd n k d) (h : k ≤ 64) : SeqAt.shaped d = true := shaped_of g.lay (by have := g.dp; omega)
end Rp

/-! The law's own variables, its own exchange. -/
namespace Rp
open PySem PySem.Spec PyProof.Rows L2 TL NdefX LamX StX
theorem kid_nums {t : Tm} : ∀ {n : Int}, t = .v n → t.nums = [n] := fun h => by subst h; rfl
theorem nums_kids {t : Tm} (no : ∀ n, t ≠ .v n) : t.nums = t.kids.flatMap Tm.nums := by
  cases t with
  | v n => exact absurd rfl (no n)
  | z => rfl
  | s t => simp [Tm.nums, Tm.kids]
  | f l r => simp [Tm.nums, Tm.kids]
theorem kids_two (t : Tm) : t.kids.length ≤ 2 := by cases t <;> simp [Tm.kids]
theorem flat_few {t : Tm} (h : t.size ≤ 100) (i : Nat) : ((t.kids.take i).flatMap Tm.nums).length ≤ 200 := by
  have one : ∀ k ∈ t.kids, k.nums.length ≤ 100 := fun k hk => by have := nums_half k; have := kid_size hk; omega
  have two := kids_two t
  have gen : ∀ l : List Tm, (∀ k ∈ l, k.nums.length ≤ 100) → (l.flatMap Tm.nums).length ≤ 100 * l.length := by
    intro l
    induction l with
    | nil => simp
    | cons k l ih =>
      intro h
      have := h k (by simp)
      have := ih fun j hj => h j (by simp [hj])
      rw [List.flatMap_cons, List.length_append, List.length_cons]; omega
  have := gen (t.kids.take i) fun k hk => one k (List.mem_of_mem_take hk)
  rw [List.length_take] at this
  omega
def spMet (n : Nat) : Sp := fun vs H Q _ => ∃ (v : V) (t : Tm), vs = [v] ∧ TmAt H v t ∧ t.size ≤ 100 ∧ t.deep < n ∧ ∀ (p : Addr) (H' : Hp), H' p = some (.lst (t.nums.map V.int)) → Same H H' → Q (.ref p) H'
def spExch (n : Nat) : Sp := fun vs H Q _ => ∃ (v : V) (t : Tm) (a : Addr) (bd : Bd), vs = [v, .ref a] ∧ TmAt H v t ∧ t.deep < n ∧ BdAt H a bd ∧ (∀ q ∈ bd, q.2.small ∧ q.2.size ≤ 40) ∧ ∀ (v' : V) (H' : Hp), TmAt H' v' (t.put bd) → Same H H' → Q v' H'
theorem bd_get {H : Hp} : ∀ {ps : List Addr} {bd : Bd} {i : Nat} {x : V}, Paired (PrAt H) ps bd → (ps.map V.ref)[i]? = some x → ∃ p q, x = .ref p ∧ bd[i]? = some q ∧ PrAt H p q
  | _, _, 0, x, .cons h t, e => by simp at e; exact ⟨_, _, e.symm, rfl, h⟩
  | _, _, i + 1, x, .cons h t, e => by simpa using bd_get t (by simpa using e)
theorem told_first (bd : Bd) (n : Int) : bd.lookup n = ((bd.filter fun q => decide (q.1 = n)).map (·.2)).head? := by
  induction bd with
  | nil => rfl
  | cons q bd ih =>
    obtain ⟨m, t⟩ := q
    by_cases h : m = n
    · subst h; simp [List.lookup]
    · have : (n == m) = false := beq_eq_false_iff_ne.mpr fun e => h e.symm
      simp [List.lookup, this, h, ih]
theorem cut_one (x : V) (ks : List V) : cutV (x :: ks) none (some 1) = [x] := by
  have := cut_to (xs := x :: ks) 1
  simpa using this
section
variable {P : Program} {w : World} {K : PySem.W.Frag} {mg : Str → Option Value} {base : Heap}
abbrev NMet : List Str := ["_law_term_here", "_law_found", "_law_part"]
theorem scMet : FnScope NMet ["_law_term_here"] (defScope sMet) := ⟨rfl, rfl, rfl, by decide +kernel, rfl, by decide +kernel, by decide +kernel⟩
theorem ok_met {n : Nat} {f : Addr} {fd : FuncData} (F : Fun K "_law_met" "_law_met" sMet f fd) (b1 : Binds K fd ["_law_term_here"] []) (mF : mg "_law_met" = some (.ref f)) (G : FnOk P w K mg base CX0 n f fd ["_law_term_here"] (spMet n))
    (mIsi : mg "isinstance" = none) (mInt : mg "int" = none) : FnOk P w K mg base CX0 (n + 1) f fd ["_law_term_here"] (spMet (n + 1)) := by
  refine F.ok scMet (fun vs H Q E h => ?_) (fun cdv A outer s H vs Q E hr h => ?_)
  · obtain ⟨v, t, rfl, _⟩ := h
    rfl
  obtain ⟨v, t, rfl, T, hz, hd, q⟩ := h
  refine ⟨_, pss_cons (ps_if (pt_val (pe_callB call_isi (by rfl) mIsi (by decide +kernel) (pa_cons (pv 0) (pa_cons (pe_bltn (v := .ty "int") (by rfl) mInt (by decide +kernel) rfl) pa_nil)))) (pss_one (ps_ret (pe_lst (pa_cons (pv 0) pa_nil)))) pss_nil)
    (pss_cons (ps_set (i := 1) scMet.nd rfl (Or.inl rfl) (pe_lst pa_nil))
    (pss_cons (ps_for PassesOwn.never rfl (pi_tup (pe_slice sl_tup (pv 0) (po_some pe_int) po_none)) (pg_name (i := 2) scMet.nd rfl (Or.inl rfl))
      (pss_one (ps_set (i := 1) scMet.nd rfl (Or.inl rfl) (pe_op op_cat (pv 1) (pe_call G hr rfl mF F.kp b1 .nil pass0 (pa_cons (pv 2) pa_nil))))))
    (pss_one (ps_ret (pv 1))))), ?_⟩
  rcases T.ty (K := K) with ⟨m, rfl, rfl⟩ | ⟨a, xs, rfl, ha, ty, no⟩
  · refine ⟨_, rfl, _, _, _, _, true, rfl, .ty "int", .base (.int m), kit_ii, true, rfl, iteT ?_⟩
    exact ⟨_, rfl, (by show 1 ≤ sizeLine; decide), fun p hp => q p _ upd_same (same_new hp _)⟩
  · obtain ⟨a', ks, e, ha', hk, hks⟩ := T.tupled no
    cases e
    refine ⟨_, rfl, _, _, _, _, false, rfl, .ty "int", ty, kit_ti, false, rfl, iteF ?_⟩
    refine ⟨(by show 0 ≤ sizeLine; decide), fun p hp => ?_⟩
    have s1 := same_new hp (.lst ([] : List V))
    refine ⟨_, rfl, 1, rfl, a, _, rfl, .inl (.inl (s1 _ _ ha')), cut_part _ _, fun p2 hp2 => ?_⟩
    rw [cut_tail]
    have s2 := same_new hp2 (.tup ks)
    refine ⟨p2, rfl, ⟨_, .inl (.inl upd_same)⟩, for_tup (K := K) (a := p2) (xs := ks) (fun i σ H2 => ∃ (p' : Addr) (pt : Option V), σ = [some (.ref a), some (.ref p'), pt] ∧ H2 p' = some (.lst (((t.kids.take i).flatMap Tm.nums).map V.int)) ∧
      Same H H2 ∧ H2 p2 = some (.tup ks)) ⟨p, none, rfl, s2 _ _ upd_same, s1.trans s2, upd_same⟩ (fun i σ H2 _ ⟨_, _, _, _, _, e⟩ => .inl (.inl e)) ?_ ?_⟩
    · rintro i x σ H2 hi ⟨p', pt, rfl, hp', sH, h2⟩
      have hil : i < t.kids.length := by rw [← hk]; exact (List.getElem?_eq_some_iff.mp hi).1
      have hki : t.kids[i]? = some t.kids[i] := List.getElem?_eq_getElem hil
      have mem : t.kids[i] ∈ t.kids := List.getElem_mem hil
      have Tx := (hks i x _ hi hki).same sH
      refine ⟨_, rfl, _, rfl, x, t.kids[i], rfl, Tx, by have := kid_size mem; omega, by have := kid_deep mem; omega, fun p3 H3 e3 s3 => ?_⟩
      refine ⟨p', p3, _, _, rfl, rfl, s3 _ _ hp', e3, ?_, fun p4 hp4 => ?_⟩
      · have h1 := flat_few hz i
        have h2 := nums_half t.kids[i]
        have h3 := kid_size mem
        have h5 : (400 : Nat) ≤ sizeLine := by decide
        rw [List.length_map, List.length_map]
        omega
      · have s4 := same_new hp4 (.lst (((t.kids.take i).flatMap Tm.nums).map V.int ++ (t.kids[i]).nums.map V.int))
        refine ⟨p4, _, rfl, ?_, sH.trans (s3.trans s4), s4 _ _ (s3 _ _ h2)⟩
        rw [upd_same, List.take_add_one, hki, ← List.map_append, List.flatMap_append]
        simp
    · rintro σ H2 ⟨p', pt, rfl, hp', sH, h2⟩
      refine ⟨_, rfl, q p' H2 ?_ sH⟩
      rw [hp', nums_kids no, hk, List.take_length]
theorem met_ok {f : Addr} {fd : FuncData} (F : Fun K "_law_met" "_law_met" sMet f fd) (b1 : Binds K fd ["_law_term_here"] []) (mF : mg "_law_met" = some (.ref f)) (mIsi : mg "isinstance" = none) (mInt : mg "int" = none) :
    ∀ n : Nat, FnOk P w K mg base CX0 n f fd ["_law_term_here"] (spMet n)
  | 0 => none_left fun vs H Q E h => by
    obtain ⟨v, t, _, _, _, h1, _⟩ := h
    omega
  | n + 1 => ok_met F b1 mF (met_ok F b1 mF mIsi mInt n) mIsi mInt
abbrev NXch : List Str := ["_law_term_here", "_law_pairs", "_law_told", "_law_variable_here", "_law_own", "_law_part"]
theorem scXch : FnScope NXch ["_law_term_here", "_law_pairs"] (defScope sExch) := ⟨rfl, rfl, rfl, by decide +kernel, rfl, by decide +kernel, by decide +kernel⟩
def teXch (n : Nat) : TE := fun σ H Q => tCons (tVar 5) (tCons (tVar 1) tNil) σ H fun vs H1 => spExch n vs H1 Q E0
theorem ok_exch {n : Nat} {f : Addr} {fd : FuncData} (F : Fun K "_law_exchanged" "_law_exchanged" sExch f fd) (b2 : Binds K fd ["_law_term_here", "_law_pairs"] []) (mF : mg "_law_exchanged" = some (.ref f)) (G : FnOk P w K mg base CX0 n f fd ["_law_term_here", "_law_pairs"] (spExch n))
    (mIsi : mg "isinstance" = none) (mInt : mg "int" = none) (mTuple : mg "tuple" = none) : FnOk P w K mg base CX0 (n + 1) f fd ["_law_term_here", "_law_pairs"] (spExch (n + 1)) := by
  refine F.ok scXch (fun vs H Q E h => ?_) (fun cdv A outer s H vs Q E hr h => ?_)
  · obtain ⟨v, t, a, bd, rfl, _⟩ := h
    rfl
  obtain ⟨v, t, ab, bd, rfl, T, hd, B, fine, q⟩ := h
  refine ⟨_, pss_cons (ps_if (pt_val (pe_callB call_isi (by rfl) mIsi (by decide +kernel) (pa_cons (pv 0) (pa_cons (pe_bltn (v := .ty "int") (by rfl) mInt (by decide +kernel) rfl) pa_nil))))
      (pss_cons (ps_setLc (i := 2) (own := [("_law_variable_here", 3), ("_law_own", 4)]) (g := gTup K 2 (gCons (gName 3) (gCons (gName 4) gNil))) (tt := tTest (tOp rEq (tVar 3) (tVar 0))) (te := tVar 4) rfl scXch.nd rfl rfl (by rfl) (pi_tup (pv 1))
          (blkOk_by (N := NXch) (sc := defScope sExch) (by decide +kernel)) (fun _ _ _ _ _ => pg_tup (by rfl) (pgs_cons (pg_name (i := 3) scXch.nd rfl (Or.inl rfl)) (pgs_cons (pg_name (i := 4) scXch.nd rfl (Or.inl rfl)) pgs_nil)))
          (fun _ _ _ _ _ => pts_one (pt_cmpR op_eq (pv 3) (pv 0) (nomark _))) (fun _ _ _ _ _ => pv 4))
        (pss_one (ps_ret (pe_ifExp (pt_cmpR (op_neD hr.units) (pv 2) (pe_lst pa_nil) (nomark _)) (pe_ix ix_list (pv 2) pe_int (fun _ _ => rfl)) (pv 0))))) pss_nil)
    (pss_one (ps_ret (pe_op op_catT (pe_slice sl_tupA (pv 0) po_none (po_some pe_int)) (pe_callTy call_tuple_of (by rfl) mTuple (by decide +kernel) (pa_cons
      (pe_lc (own := [("_law_part", 5)]) (g := gName 5) (tt := tYes) (te := teXch n) rfl scXch.nd (pi_tup (pe_slice sl_tup (pv 0) (po_some pe_int) po_none)) (blkOk_by (N := NXch) (sc := defScope sExch) (by decide +kernel))
        (fun _ _ _ _ _ => pg_name (i := 5) scXch.nd rfl (Or.inl rfl)) (fun _ _ _ _ _ => pts_nil) (fun _ _ _ _ _ => pe_call G hr (by rfl) mF F.kp b2 .nil pass0 (pa_cons (pv 5) (pa_cons (pv 1) pa_nil)))) pa_nil))))), ?_⟩
  have big : (2000 : Nat) ≤ sizeLine := by decide
  rcases T.ty (K := K) with ⟨m, rfl, rfl⟩ | ⟨a, xs, rfl, ha, ty, no⟩
  · refine ⟨_, rfl, _, _, _, _, true, rfl, .ty "int", .base (.int m), kit_ii, true, rfl, iteT ?_⟩
    obtain ⟨ps, hp, pr, nd, few⟩ := B
    have pl : ps.length = bd.length := pr.length
    refine ⟨_, rfl, ab, rfl, ⟨_, hp.sq⟩, fun D hD => lc_tup (K := K) (a := ab) (xs := ps.map V.ref) (fun i H3 => ∃ ys : List V, H3 D = some (.lst ys) ∧ AllAt H3 ys (((bd.take i).filter fun q => decide (q.1 = m)).map (·.2)) ∧ ys.length ≤ i ∧ Same H H3)
      ⟨[], upd_same, trivial, Nat.le_refl _, same_new hD _⟩ (fun i H3 _ ⟨_, _, _, _, s⟩ => (hp.same s).sq) ?_ ?_⟩
    · rintro i x H3 hi ⟨ys, h3, A3, yl, s3⟩
      obtain ⟨p, qq, rfl, hq, ⟨u, hpu, Tu⟩⟩ := bd_get pr hi
      have li : i < ps.length := by have := (List.getElem?_eq_some_iff.mp hi).1; rwa [List.length_map] at this
      have tk : bd.take (i + 1) = bd.take i ++ [qq] := by rw [List.take_add_one, hq]; rfl
      refine ⟨p, _, rfl, .inl (.inl (s3 _ _ hpu)), rfl, _, _, rfl, _, _, rfl, rfl, rfl, ?_⟩
      refine ⟨_, rfl, _, rfl, rfl, _, rfl, ?_⟩
      by_cases e : qq.1 = m
      · refine (show ∀ {A B : Prop} {b : Bool}, b = true → A → (if b = true then A else B) from fun h a => by rw [if_pos h]; exact a) (decide_eq_true (by rw [e])) ?_
        refine ⟨_, rfl, ys, h3, by omega, ys ++ [u], upd_same, ?_, by rw [List.length_append]; simp; omega, fun c o z => by rw [upd_ne (ne_of_none z hD)]; exact s3 _ _ z⟩
        have u6 : Tups H3 (upd H3 D (.lst (ys ++ [u]))) := Tups.but (but_upd _) h3
        rw [tk, List.filter_append, List.map_append]
        have : ([qq].filter fun q => decide (q.1 = m)) = [qq] := by simp [e]
        rw [this]
        exact (A3.mono u6.1).append ⟨(Tu.same s3).mono u6.1, trivial⟩
      · refine (show ∀ {A B : Prop} {b : Bool}, b = false → B → (if b = true then A else B) from fun h a => by rw [if_neg (by rw [h]; exact Bool.false_ne_true)]; exact a) (decide_eq_false (fun z => e (by injection z))) ?_
        refine ⟨ys, h3, ?_, by omega, s3⟩
        rw [tk, List.filter_append]
        have : ([qq].filter fun q => decide (q.1 = m)) = [] := by simp [e]
        rw [this, List.append_nil]
        exact A3
    · rintro H3 ⟨ys, h3, A3, yl, s3⟩
      rw [List.length_map] at A3 yl
      rw [pl, List.take_length] at A3
      have first := told_first bd m
      have okt : ∀ t ∈ ((bd.filter fun q => decide (q.1 = m)).map (·.2)), Tm.small t ∧ t.size ≤ 40 := fun t ht => by
        obtain ⟨q, hq, rfl⟩ := List.mem_map.mp ht
        exact fine q (List.mem_filter.mp hq).1
      generalize ((bd.filter fun q => decide (q.1 = m)).map (·.2)) = told at A3 first okt
      refine ⟨_, rfl, (by show 0 ≤ sizeLine; decide), fun b hb => ?_⟩
      have s4 := same_new hb (.lst ([] : List V))
      have pos : TmAt (upd H3 b (.lst ([] : List V))) (.int m) ((Tm.v m).put bd) ∨ told ≠ [] := by
        cases told with
        | nil =>
          refine .inl ?_
          show TmAt _ (.int m) ((bd.lookup m).getD (.v m))
          rw [first]
          exact .v m
        | cons t l => exact .inr (by simp)
      have sh : SeqAt.shaped (.list (told.map tmD)) = true := by
        have g : GdA (320 * told.length) 41 (told.map tmD) := gda_map fun t ht => by
          have := okt t ht
          have := Tm.deep_lt t
          exact (gd_tm t (okt t ht).1).more (by omega) (by omega)
        exact shaped_gd g.lst (by decide)
      refine ⟨.list (told.map tmD), .list [], .lst (.inl (.inl (s4 _ _ h3))) (all_dp (A3.mono (Tups.same s4).1)), .lst (.inl (.inl upd_same)) .nil, sh, ints_shaped [], !(told.map tmD).isEmpty, congrArg (fun z => V.bl (!z)) eqv_lnil, ?_⟩
      match told, ys, A3, pos, first with
      | [], [], _, pos, _ =>
        exact iteF ⟨_, rfl, q (.int m) _ (pos.resolve_right fun z => z rfl) (s3.trans s4)⟩
      | t0 :: l, y :: ys', A3, _, first =>
        refine iteT ⟨_, rfl, D, _, _, _, rfl, rfl, .inl (.inl (s4 _ _ h3)), at_of (j := 0) rfl rfl, q y _ ?_ (s3.trans s4)⟩
        show TmAt _ y ((bd.lookup m).getD (.v m))
        rw [first]
        exact A3.1.same s4
  · obtain ⟨a', ks, e, ha', hk, hks⟩ := T.tupled no
    cases e
    have k2 := kids_two t
    refine ⟨_, rfl, _, _, _, _, false, rfl, .ty "int", ty, kit_ti, false, rfl, iteF ?_⟩
    refine ⟨_, rfl, 1, rfl, a, _, rfl, .inl (.inl ha'), fun wh => ?_, fun _ a1 h1 => ?_⟩
    · have w2 := wh.2
      have e0 := HT.sIx_nat (V.str (signHead t) :: ks).length (V.str (signHead t) :: ks).length 1
      have kn : ks = [] := by
        rw [show ((1 : Nat) : Int) = 1 from rfl] at e0
        rw [e0, List.length_cons] at w2
        exact List.length_eq_zero_iff.mp (by omega)
      obtain ⟨a1, ea⟩ : ∃ a1, a1 = a := ⟨_, rfl⟩
      obtain ⟨H1, eH⟩ : ∃ H1, H1 = H := ⟨_, rfl⟩
      have ha1 : H1 a1 = some (.tup [V.str (signHead t)]) := by rw [ea, eH, ha', kn]
      have s1 : Same H H1 := by rw [eH]; exact fun _ _ z => z
      rw [← eH]
      show _

      refine ⟨_, rfl, 1, rfl, a, _, rfl, .inl (.inl (s1 _ _ ha')), cut_part _ _, fun g hg => ?_⟩
      rw [cut_tail]
      have s2 := same_new hg (.tup ks)
      have hgg : (upd H1 g (.tup ks)) g = some (.tup ks) := upd_same
      refine ⟨g, rfl, ⟨_, .inl (.inl hgg)⟩, fun D hD => lc_tup (K := K) (a := g) (xs := ks) (fun i H3 => ∃ ys : List V, H3 D = some (.lst ys) ∧ AllAt H3 ys ((t.kids.take i).map (Tm.put bd)) ∧ ys.length = i ∧ Same (upd H1 g (.tup ks)) H3)
        ⟨[], upd_same, trivial, rfl, same_new hD _⟩ (fun i H3 _ ⟨_, _, _, _, s⟩ => .inl (.inl (s _ _ hgg))) ?_ ?_⟩
      · rintro i x H3 hi ⟨ys, h3, A3, yl, s3⟩
        have hil : i < t.kids.length := by rw [← hk]; exact (List.getElem?_eq_some_iff.mp hi).1
        have hki : t.kids[i]? = some t.kids[i] := List.getElem?_eq_getElem hil
        have mem : t.kids[i] ∈ t.kids := List.getElem_mem hil
        have sH : Same H H3 := (s1.trans s2).trans s3
        refine ⟨rfl, ?_⟩
        unfold teXch
        refine ⟨_, rfl, _, rfl, x, t.kids[i], ab, bd, rfl, (hks i x _ hi hki).same sH, by have := kid_deep mem; omega, B.mono (Tups.same sH), fine, fun v' H4 T4 s4 => ?_⟩
        have h4 := s4 _ _ h3
        have u6 : Tups H4 (upd H4 D (.lst (ys ++ [v']))) := Tups.but (but_upd _) h4
        have tk : t.kids.take (i + 1) = t.kids.take i ++ [t.kids[i]] := by rw [List.take_add_one, hki]; rfl
        refine ⟨ys, h4, by omega, ys ++ [v'], upd_same, ?_, by rw [List.length_append, yl]; rfl, fun c o z => by rw [upd_ne (ne_of_none z hD)]; exact s4 _ _ (s3 _ _ z)⟩
        rw [tk, List.map_append]
        exact ((A3.mono (Tups.same s4).1).mono u6.1).append ⟨T4.mono u6.1, trivial⟩
      · rintro H3 ⟨ys, h3, A3, yl, s3⟩
        rw [hk, List.take_length] at A3
        refine ⟨D, ys, rfl, .inl ⟨.inl (.inl h3), fun l hl => ?_⟩⟩
        have s4 := same_new hl (.tup ys)
        have sH1 : Same H1 (upd H3 l (.tup ys)) := (s2.trans s3).trans s4
        have A4 := A3.mono (Tups.same s4).1
        refine ⟨a, l, _, _, rfl, rfl, .inl (.inl (sH1 _ _ (ea ▸ ha1))), .inl (.inl upd_same), by simp, by rw [List.length_singleton, yl]; omega, fun e => ?_, fun e p hp => ?_⟩
        · refine q _ _ ?_ (s1.trans sH1)
          subst e
          cases t with
          | v n => exact absurd rfl (no n)
          | z => exact .z (sH1 _ _ (ea ▸ ha1))
          | s t => exact A4.elim
          | f l r => exact A4.elim
        · have s5 := same_new hp (.tup ([V.str (signHead t)] ++ ys))
          have A5 := A4.mono (Tups.same s5).1
          refine q _ _ ?_ ((s1.trans sH1).trans s5)
          have here : (upd (upd H3 l (.tup ys)) p (.tup ([V.str (signHead t)] ++ ys))) p = some (.tup ([V.str (signHead t)] ++ ys)) := upd_same
          cases t with
          | v n => exact absurd rfl (no n)
          | z =>
            match ys, A5, e with
            | [], _, e => exact absurd rfl e
          | s t =>
            match ys, A5, here with
            | [y], A5, here => exact .s here A5.1
          | f l' r =>
            match ys, A5, here with
            | [y, z], A5, here => exact .f here A5.1 A5.2.1
    · rw [cut_one] at *
      have s1 := same_new h1 (.tup [V.str (signHead t)])
      have ha1 : (upd H a1 (.tup [V.str (signHead t)])) a1 = some (.tup [V.str (signHead t)]) := upd_same
      generalize upd H a1 (.tup [V.str (signHead t)]) = H1 at s1 ha1

      refine ⟨_, rfl, 1, rfl, a, _, rfl, .inl (.inl (s1 _ _ ha')), cut_part _ _, fun g hg => ?_⟩
      rw [cut_tail]
      have s2 := same_new hg (.tup ks)
      have hgg : (upd H1 g (.tup ks)) g = some (.tup ks) := upd_same
      refine ⟨g, rfl, ⟨_, .inl (.inl hgg)⟩, fun D hD => lc_tup (K := K) (a := g) (xs := ks) (fun i H3 => ∃ ys : List V, H3 D = some (.lst ys) ∧ AllAt H3 ys ((t.kids.take i).map (Tm.put bd)) ∧ ys.length = i ∧ Same (upd H1 g (.tup ks)) H3)
        ⟨[], upd_same, trivial, rfl, same_new hD _⟩ (fun i H3 _ ⟨_, _, _, _, s⟩ => .inl (.inl (s _ _ hgg))) ?_ ?_⟩
      · rintro i x H3 hi ⟨ys, h3, A3, yl, s3⟩
        have hil : i < t.kids.length := by rw [← hk]; exact (List.getElem?_eq_some_iff.mp hi).1
        have hki : t.kids[i]? = some t.kids[i] := List.getElem?_eq_getElem hil
        have mem : t.kids[i] ∈ t.kids := List.getElem_mem hil
        have sH : Same H H3 := (s1.trans s2).trans s3
        refine ⟨rfl, ?_⟩
        unfold teXch
        refine ⟨_, rfl, _, rfl, x, t.kids[i], ab, bd, rfl, (hks i x _ hi hki).same sH, by have := kid_deep mem; omega, B.mono (Tups.same sH), fine, fun v' H4 T4 s4 => ?_⟩
        have h4 := s4 _ _ h3
        have u6 : Tups H4 (upd H4 D (.lst (ys ++ [v']))) := Tups.but (but_upd _) h4
        have tk : t.kids.take (i + 1) = t.kids.take i ++ [t.kids[i]] := by rw [List.take_add_one, hki]; rfl
        refine ⟨ys, h4, by omega, ys ++ [v'], upd_same, ?_, by rw [List.length_append, yl]; rfl, fun c o z => by rw [upd_ne (ne_of_none z hD)]; exact s4 _ _ (s3 _ _ z)⟩
        rw [tk, List.map_append]
        exact ((A3.mono (Tups.same s4).1).mono u6.1).append ⟨T4.mono u6.1, trivial⟩
      · rintro H3 ⟨ys, h3, A3, yl, s3⟩
        rw [hk, List.take_length] at A3
        refine ⟨D, ys, rfl, .inl ⟨.inl (.inl h3), fun l hl => ?_⟩⟩
        have s4 := same_new hl (.tup ys)
        have sH1 : Same H1 (upd H3 l (.tup ys)) := (s2.trans s3).trans s4
        have A4 := A3.mono (Tups.same s4).1
        refine ⟨a1, l, _, _, rfl, rfl, .inl (.inl (sH1 _ _ ha1)), .inl (.inl upd_same), by simp, by rw [List.length_singleton, yl]; omega, fun e => ?_, fun e p hp => ?_⟩
        · refine q _ _ ?_ (s1.trans sH1)
          subst e
          cases t with
          | v n => exact absurd rfl (no n)
          | z => exact .z (sH1 _ _ ha1)
          | s t => exact A4.elim
          | f l r => exact A4.elim
        · have s5 := same_new hp (.tup ([V.str (signHead t)] ++ ys))
          have A5 := A4.mono (Tups.same s5).1
          refine q _ _ ?_ ((s1.trans sH1).trans s5)
          have here : (upd (upd H3 l (.tup ys)) p (.tup ([V.str (signHead t)] ++ ys))) p = some (.tup ([V.str (signHead t)] ++ ys)) := upd_same
          cases t with
          | v n => exact absurd rfl (no n)
          | z =>
            match ys, A5, e with
            | [], _, e => exact absurd rfl e
          | s t =>
            match ys, A5, here with
            | [y], A5, here => exact .s here A5.1
          | f l' r =>
            match ys, A5, here with
            | [y, z], A5, here => exact .f here A5.1 A5.2.1
theorem exch_ok {f : Addr} {fd : FuncData} (F : Fun K "_law_exchanged" "_law_exchanged" sExch f fd) (b2 : Binds K fd ["_law_term_here", "_law_pairs"] []) (mF : mg "_law_exchanged" = some (.ref f)) (mIsi : mg "isinstance" = none) (mInt : mg "int" = none) (mTuple : mg "tuple" = none) :
    ∀ n : Nat, FnOk P w K mg base CX0 n f fd ["_law_term_here", "_law_pairs"] (spExch n)
  | 0 => none_left fun vs H Q E h => by
    obtain ⟨v, t, _, _, _, _, h1, _⟩ := h
    omega
  | n + 1 => ok_exch F b2 mF (exch_ok F b2 mF mIsi mInt mTuple n) mIsi mInt mTuple
end
end Rp

set_option maxHeartbeats 8000000
/-! The law's BINDINGs. -/
namespace Rp
open PySem PySem.Spec PyProof.Rows L2 TL NdefX LamX StX PpSet
theorem ne_box {H : Hp} {a b : Addr} {j : Nat} (B : BoxAt H b j) (h : H a = none) : a ≠ b := by
  obtain ⟨y, hb⟩ := B.some
  exact (ne_of_none hb h).symm
theorem box_tups {H H' : Hp} {b : Addr} {j : Nat} (B : BoxAt H b j) (o : But b H H') : Tups H H' := by
  obtain ⟨y, hb⟩ := B.some
  exact Tups.but o hb
theorem but_new {H : Hp} {b D : Addr} {H0 H1 : Hp} {o : HO} (hD : H D = none) (h : But b H H0) (h' : But b H0 H1) : But b H (upd H1 D o) := by
  intro x u z nb
  rw [upd_ne (ne_of_none z hD)]
  exact h' _ _ (h _ _ z nb) nb
theorem Paired.snoc2 {α β : Type} {R : α → β → Prop} : ∀ {l : List α} {m : List β} {a : α} {b : β}, Paired R l m → R a b → Paired R (l ++ [a]) (m ++ [b])
  | _, _, _, _, .nil, h => .cons h .nil
  | _, _, _, _, .cons h t, g => .cons h (Paired.snoc2 t g)
def okN (n : Int) : Prop := 0 ≤ n ∧ n ≤ 99
def okBd (bd : Bd) : Prop := ∀ q ∈ bd, okN q.1 ∧ q.2.small ∧ q.2.size ≤ 15
def spBind : Sp := fun vs H Q _ => ∃ (b m : Addr) (ms : List Int) (j : Nat), vs = [.ref b, .ref m] ∧ BoxAt H b j ∧ H m = some (.lst (ms.map V.int)) ∧ m ≠ b ∧ ms.length ≤ 40 ∧ (∀ n ∈ ms, okN n) ∧ j + 2500 ≤ 1000000 ∧
  ∀ (a : Addr) (bd : Bd) (H' : Hp), BdAt H' a bd → okBd bd → bd.length ≤ 42 → BoxAt H' b (j + 2500) → But b H H' → Q (.ref a) H'
abbrev NBind : List Str := ["_law_box_here", "_law_met_here", "_law_variable_here", "_law_some", "_law_way", "_law_found", "_law_at"]
def ttTake : TT := tTest (tOp (rI0 fun i j => .bl (decide (j < i))) (tCall spTake [] E0 (tCons (tVar 0) (tCons (tC (.int 4)) tNil))) (tC (.int 0)))
section
variable {P : Program} {w : World} {K : PySem.W.Frag} {mg : Str → Option Value} {base : Heap}
theorem scBind : FnScope NBind ["_law_box_here", "_law_met_here"] (defScope sBindL) := ⟨rfl, rfl, rfl, by decide +kernel, rfl, by decide +kernel, by decide +kernel⟩
theorem ok_bind {f fT fV fTm : Addr} {fd dT dV dTm : FuncData} (F : Fun K "_law_binding" "_law_binding" sBindL f fd)
    (GT : FnOk P w K mg base CX0 1 fT dT ["_law_box_here", "_law_top"] spTake) (kT : PySem.W.keepIn K (.ref fT) = true) (bT : Binds K dT ["_law_box_here", "_law_top"] []) (mT : mg "_law_take" = some (.ref fT))
    (GV : FnOk P w K mg base CX0 2 fV dV ["_law_box_here"] spLVar) (kV : PySem.W.keepIn K (.ref fV) = true) (bV : Binds K dV ["_law_box_here"] []) (mV : mg "_law_variable" = some (.ref fV))
    (GTm : FnOk P w K mg base CX0 7 fTm dTm ["_law_box_here", "_law_deep"] (spLTerm 5)) (kTm : PySem.W.keepIn K (.ref fTm) = true) (bTm : Binds K dTm ["_law_box_here", "_law_deep"] []) (mTm : mg "_law_term" = some (.ref fTm))
    (mSorted : mg "sorted" = none) (mSet : mg "set" = none) (mEnum : mg "enumerate" = none) (mLen : mg "len" = none) (mTuple : mg "tuple" = none) : FnOk P w K mg base CX0 8 f fd ["_law_box_here", "_law_met_here"] spBind := by
  refine F.ok scBind (fun vs H Q E h => ?_) (fun cdv A outer s H vs Q E hr h => ?_)
  · obtain ⟨b, m, ms, j, rfl, _⟩ := h
    rfl
  obtain ⟨b, m, ms, j, rfl, B, hm, mb, mf, mo, hj, q⟩ := h
  have r1 : Room 1 _ := hr.mono (by decide)
  have r2 : Room 2 _ := hr.mono (by decide)
  refine ⟨_, pss_cons (ps_set (i := 3) scBind.nd rfl (Or.inl rfl) (pe_op op_cat (pe_lc (own := [("_law_variable_here", 2)]) (g := gName 2) (tt := ttTake) (te := tVar 2) rfl scBind.nd (pi_list (pv 1)) (blkOk_by (N := NBind) (sc := defScope sBindL) (by decide +kernel))
        (fun _ _ _ _ _ => pg_name (i := 2) scBind.nd rfl (Or.inl rfl)) (fun _ _ _ _ _ => pts_one (pt_cmpR op_gt (pe_call GT r1 (by rfl) mT kT bT .nil pass0 (pa_cons (pv 0) (pa_cons pe_int pa_nil))) pe_int (nomark _))) (fun _ _ _ _ _ => pv 2))
      (pe_op op_rep (pe_lst (pa_cons (pe_call GV r2 rfl mV kV bV .nil pass0 (pa_cons (pv 0) pa_nil)) pa_nil)) (pe_call GT r1 rfl mT kT bT .nil pass0 (pa_cons (pv 0) (pa_cons pe_int pa_nil))))))
    (pss_cons (ps_set (i := 3) scBind.nd rfl (Or.inl rfl) (pe_callB (cr_sortedSet rfl) (by rfl) mSorted (by decide +kernel) (pa_cons (pe_callTy (cr_setI rfl) (by rfl) mSet (by decide +kernel) (pa_cons (pv 3) pa_nil)) pa_nil)))
    (pss_cons (ps_par (i := 4) (j := 5) rfl scBind.nd rfl rfl (by decide) rfl rfl (pa_cons (pe_call GT r1 rfl mT kT bT .nil pass0 (pa_cons (pv 0) (pa_cons pe_int pa_nil))) (pa_cons (pe_lst pa_nil) pa_nil)) (by rfl))
    (pss_cons (ps_for PassesOwn.never rfl (pi_enum (by rfl) mEnum (pa_cons (pv 3) pa_nil)) (pg_tup (by rfl) (pgs_cons (pg_name (i := 6) scBind.nd rfl (Or.inl rfl)) (pgs_cons (pg_name (i := 2) scBind.nd rfl (Or.inl rfl)) pgs_nil)))
      (pss_one (ps_expr (pe_bm PySem.F.plainAttrs_list PySem.F.slot_list_append PySem.F.type_list_append mt_append (pv 5) (pa_cons (pe_tup (pa_cons (pv 2) (pa_cons (pe_ifExp (pt_cmpR op_eq (pv 4) pe_int (nomark _))
        (pe_ix ix_list (pv 3) (pe_op op_modP (pe_op op_addI (pv 6) pe_int) (pe_callB call_len_seq (by rfl) mLen PySem.boot_len (pa_cons (pv 3) pa_nil))) (fun _ _ => rfl))
        (pe_call GTm hr rfl mTm kTm bTm .nil pass0 (pa_cons (pv 0) (pa_cons (pe_ix ix_list (pe_lst (pa_cons pe_int (pa_cons pe_int pa_nil))) (pe_op op_sub (pv 4) pe_int) (fun _ _ => rfl)) pa_nil)))) pa_nil))) pa_nil)))))
    (pss_one (ps_ret (pe_callTy cr_tupF rfl mTuple (by decide +kernel) (pa_cons (pv 5) pa_nil))))))), ?_⟩
  have big : (10000 : Nat) ≤ sizeLine := by decide
  have lim : (200 : Nat) < scanBound := by decide
  -- the variables met that are taken
  refine ⟨_, rfl, m, rfl, ⟨_, .inl (.inl hm)⟩, fun D hD => lc_list (K := K) (a := m) (xs := ms.map V.int) (fun i H2 => ∃ us : List Int, H2 D = some (.lst (us.map V.int)) ∧ us.length ≤ i ∧ (∀ n ∈ us, n ∈ ms) ∧ BoxAt H2 b (j + i) ∧ But b H H2)
    ⟨[], upd_same, Nat.le_refl _, by simp, B.same (same_new hD _), but_of (same_new hD _)⟩ (fun i H2 _ ⟨_, _, _, _, _, o⟩ => .inl (.inl (o _ _ hm mb))) ?_ ?_⟩
  · rintro i x H2 hi ⟨us, h2, ul, um, B2, o2⟩
    have Db := ne_box B hD
    have li : i < ms.length := by have := (List.getElem?_eq_some_iff.mp hi).1; rwa [List.length_map] at this
    rw [List.getElem?_map, List.getElem?_eq_getElem li] at hi
    obtain rfl := (Option.some.inj hi).symm
    refine ⟨rfl, ?_⟩
    unfold ttTake
    refine ⟨_, rfl, b, _, _, rfl, B2, by omega, by decide, by decide, fun r H3 c0 c1 B3 o3 => ?_⟩
    refine ⟨_, _, rfl, rfl, decide ((0 : Int) < r), rfl, ?_⟩
    have h3 := o3 _ _ h2 Db
    by_cases hr0 : (0 : Int) < r
    · rw [decide_eq_true hr0]
      refine iteT ?_
      refine ⟨_, rfl, us.map V.int, h3, by rw [List.length_map]; omega, us ++ [ms[i]], ?_, by rw [List.length_append]; simp; omega, ?_, B3.upd Db _, but_new hD o2 o3⟩
      · rw [upd_same, List.map_append]; rfl
      · intro n hn
        rcases List.mem_append.mp hn with z | z
        · exact um n z
        · rw [List.mem_singleton.mp z]; exact List.getElem_mem li
    · rw [decide_eq_false hr0]
      exact iteF ⟨us, h3, by omega, um, B3, o2.trans o3⟩
  · rintro H2 ⟨us, h2, ul, um, B2, o2⟩
    rw [List.length_map] at ul B2
    have Db := ne_box B hD
    refine ⟨_, rfl, b, _, rfl, B2, by omega, fun n H3 n0 n9 B3 o3 => ?_⟩
    refine ⟨(by show 1 ≤ sizeLine; decide), fun e he => ?_⟩
    have s4 := same_new he (.lst [V.int n])
    refine ⟨_, rfl, b, _, _, rfl, B3.same s4, by omega, by decide, by decide, fun r H5 r0 r1' B5 o5 => ?_⟩
    have eb := ne_box B3 he
    have he5 := o5 _ _ upd_same eb
    have h5 := o5 _ _ (s4 _ _ (o3 _ _ h2 Db)) Db
    refine ⟨e, r, _, rfl, rfl, he5, by omega, by omega, by simp; omega, fun g hg => ?_⟩
    have rep : (List.replicate r.toNat [V.int n]).flatten = (List.replicate r.toNat n).map V.int := by
      generalize r.toNat = k
      induction k with
      | zero => rfl
      | succ k ih => rw [List.replicate_succ, List.flatten_cons, ih, List.replicate_succ]; rfl
    rw [rep]
    have s6 := same_new hg (.lst ((List.replicate r.toNat n).map V.int))
    refine ⟨D, g, us.map V.int, _, rfl, rfl, s6 _ _ h5, upd_same, by rw [List.length_map, List.length_map, List.length_replicate]; omega, fun l hl => ?_⟩
    rw [← List.map_append]
    have s7 := same_new hl (.lst ((us ++ List.replicate r.toNat n).map V.int))
    obtain ⟨zs, ez⟩ : ∃ zs, us ++ List.replicate r.toNat n = zs := ⟨_, rfl⟩
    have zl : zs.length ≤ 42 := by rw [← ez, List.length_append, List.length_replicate]; omega
    have zo : ∀ k ∈ zs, okN k := fun k hk => by
      rw [← ez] at hk
      rcases List.mem_append.mp hk with z | z
      · exact mo k (um k z)
      · rw [(List.mem_replicate.mp z).2]; exact ⟨n0, n9⟩
    rw [ez] at s7 ⊢
    refine ⟨_, rfl, l, zs, rfl, .inl (.inl upd_same), by omega, fun p c hp cl => ?_⟩
    have s8 := same_new hp (SetO w p (fun j => decide (j ∈ zs)) c)
    refine ⟨p, _, c, rfl, upd_same, by omega, fun ns d up mem _ hd => ?_⟩
    have s9 := same_new hd (.lst (ns.map V.int))
    have o8 : But b H _ := ((((o2.trans o3).trans (but_of s4)).trans o5).trans (but_of s6)).trans ((but_of s7).trans ((but_of s8).trans (but_of s9)))
    have B9 := (((B5.same s6).same s7).same s8).same s9
    have db : d ≠ b := ne_box (((B5.same s6).same s7).same s8) hd
    have nl : ns.length ≤ 42 := by
      have := rising_few up fun k hk => by simpa using (mem k).1 hk
      omega
    have no : ∀ k ∈ ns, okN k := fun k hk => zo k (by simpa using (mem k).1 hk)
    refine ⟨_, rfl, b, _, _, rfl, B9, by omega, by decide, by decide, fun way H10 w0 w3 B10 o10 => ?_⟩
    refine ⟨(by show 0 ≤ sizeLine; decide), fun fo hfo => ?_⟩
    have s11 := same_new hfo (.lst ([] : List V))
    have hd10 : H10 d = some (.lst (ns.map V.int)) := o10 _ _ upd_same db
    have fob := ne_box B10 hfo
    have fod : fo ≠ d := (ne_of_none hd10 hfo).symm
    have o10' := o8.trans o10
    have hH := but_none o10' B10 hfo
    obtain ⟨Iv, hIv⟩ : ∃ Iv : Nat → L2.St → Hp → Prop, Iv = fun i σ H3 => ∃ (ps : List Addr) (bd : Bd) (c2 c6 : Option V), σ = [some (.ref b), some (.ref m), c2, some (.ref d), some (.int way), some (.ref fo), c6] ∧ H3 fo = some (.lst (ps.map V.ref)) ∧
      Paired (PrAt H3) ps bd ∧ bd.map (·.1) = ns.take i ∧ okBd bd ∧ BoxAt H3 b (j + 60 + 50 * i) ∧ H3 d = some (.lst (ns.map V.int)) ∧ But b H H3 := ⟨_, rfl⟩
    refine ⟨_, _, rfl, _, rfl, d, _, rfl, .inl (.inl (s11 _ _ hd10)), for_it (walk_enum (xs := ns.map V.int)) Iv ?_ (fun i σ H3 _ iv => ?_) ?_ ?_⟩
    · rw [hIv]
      exact ⟨[], [], _, _, rfl, upd_same, .nil, rfl, by simp [okBd], (B10.same s11).more (by omega), s11 _ _ hd10, but_new hH o10' (But.refl _ _)⟩
    · rw [hIv] at iv
      obtain ⟨_, _, _, _, _, _, _, _, _, _, h, _⟩ := iv
      exact .inl (.inl h)
    · rintro i x σ H3 H4 hi iv ⟨T, u, v, rfl, hT, rfl, hu, hv⟩
      rw [hIv] at iv
      obtain ⟨ps, bd, c2, c6, rfl, hf3, P3, ks, okb, B3, hd3, o3⟩ := iv
      obtain rfl := Option.some.inj hu
      rw [List.length_map] at hi
      have hv : (ns.map V.int)[i]? = some v := hv
      rw [List.getElem?_map, List.getElem?_eq_getElem hi] at hv
      obtain rfl := Option.some.inj hv
      have sT := same_new hT (.tup [V.int (i : Nat), V.int ns[i]])
      have pl : ps.length = i := by
        have := congrArg List.length ks
        rw [List.length_map, List.length_take, ← P3.length] at this
        omega
      have hat : ∀ k : Nat, (h : k < ns.length) → atI (ns.map V.int) (k : Int) = some (V.int ns[k]) := fun k h => by
        unfold atI
        rw [show ixN (ns.map V.int).length (k : Int) = some k by rw [List.length_map, ixN_int (n := ns.length) (i := (k : Int)) (by omega)]; simp]
        show (ns.map V.int)[k]? = _
        rw [List.getElem?_map, List.getElem?_eq_getElem h]
        rfl
      have hi' := no _ (List.getElem_mem hi)
      have fin : ∀ (v : V) (t : Tm) (H5 : Hp), TmAt H5 v t → t.small → t.size ≤ 15 → BoxAt H5 b (j + 60 + 50 * (i + 1)) → But b (upd H3 T (.tup [V.int (i : Nat), V.int ns[i]])) H5 →
          2 ≤ sizeLine ∧ ∀ c, H5 c = none → ∃ (l : Addr) (xs : List V) (y : V), V.ref fo = .ref l ∧ [V.ref c] = [y] ∧ (upd H5 c (.tup [V.int ns[i], v])) l = some (.lst xs) ∧ xs.length < sizeLine ∧
            Iv (i + 1) [some (.ref b), some (.ref m), some (.int ns[i]), some (.ref d), some (.int way), some (.ref fo), some (.int (i : Nat))] (upd (upd H5 c (.tup [V.int ns[i], v])) l (.lst (xs ++ [y]))) := by
        intro v t H5 Tv sm sz B5 o5
        refine ⟨by omega, fun c hc => ?_⟩
        have s6 := same_new hc (.tup [V.int ns[i], v])
        have hf5 := o5 _ _ (sT _ _ hf3) fob
        have hf6 := s6 _ _ hf5
        have cf : c ≠ fo := (ne_of_none hf5 hc).symm
        have u36 : Tups H3 (upd H5 c (.tup [V.int ns[i], v])) := ((Tups.same sT).trans (box_tups (B3.same sT) o5)).trans (Tups.same s6)
        have u7 : Tups (upd H5 c (.tup [V.int ns[i], v])) (upd (upd H5 c (.tup [V.int ns[i], v])) fo (.lst (ps.map V.ref ++ [V.ref c]))) := Tups.but (but_upd _) hf6
        refine ⟨fo, ps.map V.ref, .ref c, rfl, rfl, hf6, by rw [List.length_map, pl]; omega, ?_⟩
        rw [hIv]
        refine ⟨ps ++ [c], bd ++ [(ns[i], t)], _, _, rfl, ?_, Paired.snoc2 (L2.Paired.mapP P3 fun _ _ z => (z.mono u36.1).mono u7.1) ⟨v, ?_, ((Tv.same s6).mono u7.1)⟩, ?_, ?_, (B5.same s6).upd fob _, ?_, ?_⟩
        · rw [upd_same, List.map_append]; rfl
        · rw [upd_ne cf, upd_same]
        · rw [List.map_append, ks, List.take_add_one, List.getElem?_eq_getElem hi]; rfl
        · intro z hz
          rcases List.mem_append.mp hz with hz | hz
          · exact okb z hz
          · rw [List.mem_singleton.mp hz]; exact ⟨hi', sm, sz⟩
        · rw [upd_ne fod.symm]
          exact s6 _ _ (o5 _ _ (sT _ _ hd3) db)
        · exact but_new hH o3 ((but_of sT).trans (o5.trans (but_of s6)))
      refine ⟨T, _, rfl, .inl (.inl upd_same), rfl, _, _, rfl, _, _, rfl, rfl, ?_⟩
      refine ⟨_, rfl, .inl ⟨rfl, _, .inl (.inl (sT _ _ hf3))⟩, ?_⟩
      refine ⟨_, rfl, ?_⟩
      by_cases hw : way = 0
      · refine ⟨_, rfl, rfl, true, congrArg V.bl (decide_eq_true (by rw [hw])), iteT ?_⟩
        have m0 : 0 ≤ ((i : Int) + 1) % (ns.length : Int) ∧ ((i : Int) + 1) % (ns.length : Int) < ns.length := ⟨Int.emod_nonneg _ (by omega), Int.emod_lt_of_pos _ (by omega)⟩
        obtain ⟨k, hk⟩ := Int.eq_ofNat_of_zero_le m0.1
        have kl : k < ns.length := by omega
        have hds := sT _ _ hd3
        refine ⟨_, rfl, _, rfl, _, _, rfl, rfl, _, rfl, d, _, rfl, .inl (.inl (.inl hds)), _, _, rfl, rfl, ?_, d, _, _, _, rfl, rfl, .inl (.inl hds), ?_, fin (.int ns[k]) (.v ns[k]) _ (.v _) ?_ (by simp [Tm.size]) ((B3.same sT).more (by omega)) (But.refl _ _)⟩
        · show (0 : Int) < ((ns.map V.int).length : Nat)
          rw [List.length_map]; omega
        · show atI (ns.map V.int) (((i : Int) + 1) % ((ns.map V.int).length : Nat)) = _
          rw [List.length_map, hk]
          exact hat k kl
        · intro z hz
          simp [Tm.nums] at hz
          rw [hz]
          exact no _ (List.getElem_mem kl)
      · refine ⟨_, rfl, rfl, false, congrArg V.bl (decide_eq_false (fun z => hw (by injection z))), iteF ?_⟩
        refine ⟨_, rfl, (by show 2 ≤ sizeLine; decide), fun e2 he2 => ?_⟩
        have s7 := same_new he2 (.lst [V.int 1, V.int 3])
        obtain ⟨dd, hdd, hat2⟩ : ∃ dd : Nat, dd ≤ 3 ∧ atI [V.int 1, V.int 3] (way - 1) = some (.int (dd : Nat)) := by
          rcases (by omega : way = 1 ∨ way = 2) with e | e <;> subst e
          · exact ⟨1, by omega, at_of (j := 0) rfl rfl⟩
          · exact ⟨3, by omega, at_of (j := 1) rfl rfl⟩
        have pw1 : 2 ^ dd ≤ 2 ^ 3 := Nat.pow_le_pow_right (by decide) hdd
        have pw2 : 2 ^ (dd + 1) ≤ 2 ^ 4 := Nat.pow_le_pow_right (by decide) (by omega)
        refine ⟨_, rfl, _, _, rfl, rfl, e2, _, _, _, rfl, rfl, .inl (.inl upd_same), hat2, b, _, dd, rfl, (B3.same sT).same s7, by omega, by omega, by omega, fun v t H5 Tv sm sz B5 o5 => fin v t H5 Tv sm (by omega) (B5.more (by omega)) ((but_of s7).trans o5)⟩
    · intro σ H3 iv
      rw [hIv] at iv
      obtain ⟨ps, bd, c2, c6, rfl, hf3, P3, ks, okb, B3, hd3, o3⟩ := iv
      rw [List.length_map, List.take_length] at ks
      rw [List.length_map] at B3
      have bl : bd.length = ns.length := by rw [← ks, List.length_map]
      refine ⟨_, rfl, fo, ps.map V.ref, rfl, .inl (.inl hf3), fun g ob od hg => ?_⟩
      have s4 := same_new hg (.frz ob (.tup (ps.map V.ref)))
      refine q g bd _ ⟨ps, ⟨ob, od, upd_same⟩, L2.Paired.mapP P3 fun _ _ z => z.mono (Tups.same s4).1, ?_, by omega⟩ okb (by omega) ((B3.same s4).more (by omega)) (o3.trans (but_of s4))
      rw [ks]
      exact up.imp fun z => by omega
end
end Rp

set_option maxHeartbeats 16000000
/-! Right. -/
namespace Rp
open PySem PySem.Spec PyProof.Rows L2 TL NdefX LamX StX PpSet
theorem hu66 {A : Around} {k : Nat} (hr : Room k A) : A.units + 66 < cLine := by have := hr.un; omega
def amD (p : Str) (ts : List Tm) : PyData := .tuple (.str p :: ts.map tmD)
def prD (q : Int × Tm) : PyData := .tuple [.int q.1, tmD q.2]
def bdD (bd : Bd) : PyData := .tuple (bd.map prD)
theorem am_dp {K : PySem.W.Frag} {H : Hp} {v : V} {p : Str} {ts : List Tm} (h : AmAt H v p ts) : Dp K H v (amD p ts) := by
  obtain ⟨a, xs, rfl, ha, A⟩ := h
  exact .tup (.inl (.inl ha)) (.cons (.str _) (all_dp A))
theorem prs_dp {K : PySem.W.Frag} {H : Hp} : ∀ {ps : List Addr} {bd : Bd}, Paired (PrAt H) ps bd → DpAll K H (ps.map V.ref) (bd.map prD)
  | _, _, .nil => .nil
  | _, _, .cons ⟨x, h, T⟩ t => .cons (.tup (.inl (.inl h)) (.cons (.int _) (.cons (tm_dp T) .nil))) (prs_dp t)
theorem bd_dp {K : PySem.W.Frag} {H : Hp} {a : Addr} {bd : Bd} (h : BdAt H a bd) : Dp K H (.ref a) (bdD bd) := by
  obtain ⟨ps, hp, pr, _, _⟩ := h
  exact .tup hp.sq (prs_dp pr)
theorem gd_am {p : Str} {ts : List Tm} (nm : NameOk p) (two : ts.length ≤ 2) (ok : ∀ t ∈ ts, t.small ∧ t.size ≤ 40) : Gd 800 50 (amD p ts) := by
  have h : GdA (320 * ts.length) 42 (ts.map tmD) := gda_map fun t ht => by
    have := Tm.deep_lt t
    have z := ok t ht
    exact (gd_tm t z.1).more (by omega) (by omega)
  exact (((gd_str (name_lay nm) nm.few).more (Nat.le_refl _) (by decide : 1 ≤ 42) |> fun g => GdA.cons g h).tup).more (by omega) (by omega)
theorem gd_bd {bd : Bd} (ok : okBd bd) (few : bd.length ≤ 42) : Gd 20000 50 (bdD bd) := by
  have h : GdA (200 * bd.length) 43 (bd.map prD) := gda_map fun q hq => by
    obtain ⟨⟨n0, n9⟩, sm, sz⟩ := ok q hq
    have := Tm.deep_lt q.2
    have g1 := (gd_int (i := q.1) (by omega)).more (Nat.le_refl _) (by decide : 1 ≤ 42)
    have g2 := (gd_tm q.2 sm).more (by omega : 8 * q.2.size ≤ 120) (by omega : q.2.deep + 1 ≤ 42)
    exact (GdA.cons g1 (GdA.cons g2 (gda_nil 42))).tup.more (by decide) (by decide)
  exact h.tup.more (by omega) (by decide)
theorem alike_am {H : Hp} {p : Str} {ts : List Tm} {x y : V} (hx : AmAt H x p ts) (hy : AmAt H y p ts) (two : ts.length ≤ 2) (hd : ∀ t ∈ ts, t.deep < 50) : Alike H 51 x y := by
  obtain ⟨a, xs, rfl, ha, A⟩ := hx
  obtain ⟨b, ys, rfl, hb, B⟩ := hy
  have lx := A.len
  have ly := B.len
  unfold Alike
  refine .inr ⟨a, b, _, _, rfl, rfl, .inr ⟨ha, hb⟩, by simp [lx, ly], by simp; omega, fun i u v h1 h2 => ?_⟩
  match i with
  | 0 => simp at h1 h2; subst h1 h2; exact alike_plain trivial
  | i + 1 => exact alike_all A B hd i u v (by simpa using h1) (by simpa using h2)
theorem lookup_mem {bd : Bd} {n : Int} {t : Tm} (h : bd.lookup n = some t) : (n, t) ∈ bd := by
  induction bd with
  | nil => cases h
  | cons q bd ih =>
    obtain ⟨m, u⟩ := q
    by_cases e : n = m
    · subst e
      simp [List.lookup] at h
      subst h; simp
    · have : (n == m) = false := beq_eq_false_iff_ne.mpr e
      rw [List.lookup_cons, this] at h
      exact List.mem_cons_of_mem _ (ih h)
theorem put_deep {bd : Bd} (ok : okBd bd) : ∀ t : Tm, (t.put bd).deep ≤ t.deep + 15
  | .v n => by
    show ((bd.lookup n).getD (.v n)).deep ≤ _
    cases e : bd.lookup n with
    | none => exact Nat.le_add_right _ _
    | some u =>
      have := (ok _ (lookup_mem e)).2.2
      have := Tm.deep_lt u
      show u.deep ≤ _
      have h2 : u.size ≤ 15 := (ok _ (lookup_mem e)).2.2
      omega
  | .z => Nat.le_add_right _ _
  | .s t => by have := put_deep ok t; simp only [Tm.put, Tm.deep]; omega
  | .f l r => by have := put_deep ok l; have := put_deep ok r; simp only [Tm.put, Tm.deep]; omega
/-- what is known along the way -/
structure Rt (T : List NTab) (H : Hp) (b a mt : Addr) (p : Str) (xs : List V) (ts : List Tm) (ms : List Int) (J : Nat) (H3 : Hp) : Prop where
  box : BoxAt H3 b J
  atm : H3 a = some (.tup (.str p :: xs))
  all : AllAt H3 xs ts
  met : H3 mt = some (.lst (ms.map V.int))
  ext : ExtB T b H H3
  nn : ∀ c, H3 c = none → H c = none
section
variable {T : List NTab} {H : Hp} {b a mt : Addr} {p : Str} {xs : List V} {ts : List Tm} {ms : List Int} {J J' : Nat} {H3 H4 : Hp}
theorem Rt.same (R : Rt T H b a mt p xs ts ms J H3) (s : Same H3 H4) : Rt T H b a mt p xs ts ms J H4 :=
  ⟨R.box.same s, s _ _ R.atm, R.all.mono (Tups.same s).1, s _ _ R.met, R.ext.trans (ExtB.same R.ext.tab s), fun c h => R.nn c (same_none s c h)⟩
theorem Rt.draw (R : Rt T H b a mt p xs ts ms J H3) (n : mt ≠ b) (o : But b H3 H4) (B : BoxAt H4 b J') : Rt T H b a mt p xs ts ms J' H4 := by
  have u := box_tups R.box o
  obtain ⟨y, hb⟩ := R.box.some
  exact ⟨B, u.1 _ _ R.atm, R.all.mono u.1, o _ _ R.met n, R.ext.trans (ExtB.but R.ext.tab hb o), fun c h => R.nn c (but_none o B h)⟩
theorem Rt.more (R : Rt T H b a mt p xs ts ms J H3) (e : Ext T H3 H4) : Rt T H b a mt p xs ts ms J H4 := by
  have u := e.tups
  obtain ⟨x, y, z, hb, r⟩ := R.box.ex
  exact ⟨⟨x, y, z, e.lst hb, r⟩, u.1 _ _ R.atm, R.all.mono u.1, e.lst R.met, R.ext.trans e.toB, fun c h => R.nn c (e.nn c h)⟩
theorem Rt.list {D : Addr} {zs ys : List V} (R : Rt T H b a mt p xs ts ms J H3) (h : H3 D = some (.lst zs)) (hD : H D = none) (nb : D ≠ b) (nm : D ≠ mt) : Rt T H b a mt p xs ts ms J (upd H3 D (.lst ys)) := by
  have u : Tups H3 (upd H3 D (.lst ys)) := Tups.but (but_upd _) h
  refine ⟨R.box.upd nb _, u.1 _ _ R.atm, R.all.mono u.1, by rw [upd_ne nm.symm]; exact R.met, ⟨fun c o z n m => ?_, tabs_but R.ext.tab h (but_upd _)⟩, fun c z => R.nn c (upd_none z)⟩
  rw [upd_ne (ne_of_none z hD)]
  exact R.ext.ext c o z n m
theorem Rt.at_ (R : Rt T H b a mt p xs ts ms J H3) : AmAt H3 (.ref a) p ts := ⟨a, xs, rfl, R.atm, R.all⟩
end
def spRight (T : List NTab) : Sp := fun vs H Q _ => ∃ (b w : Addr) (ws : List Str) (j : Nat), vs = [.ref b, .ref w] ∧ BoxAt H b j ∧ H w = some (.lst (ws.map V.str)) ∧ w ≠ b ∧ ws.length = 4 ∧ (∀ x ∈ ws, NameOk x) ∧ TabsN T H ∧ j + 12000 ≤ 1000000 ∧
  ∀ H', BoxAt H' b (j + 12000) → ExtB T b H H' → (∀ c, H' c = none → H c = none) → Q (.bl true) H'
section
variable {P : Program} {w : World} {K : PySem.W.Frag} {mg : Str → Option Value} {base : Heap}
def tsrt (w : World) (K : PySem.W.Frag) : TE := tCB (rSortedSet w) (tCons (tCB (rSetI K w) (tCons (tVar 4) tNil)) tNil)
theorem srt_ok {w : World} {K : PySem.W.Frag} {σ : L2.St} {mt : Addr} {ms : List Int} {H : Hp} {Kc : V → Hp → Prop} (h4 : σ[4]? = some (some (.ref mt))) (hm : H mt = some (.lst (ms.map V.int))) (few : ms.length ≤ 40)
    (go : ∀ (d : Addr) (ns : List Int) (H' : Hp), H' d = some (.lst (ns.map V.int)) → ns.Pairwise (· < ·) → (∀ k, k ∈ ns ↔ k ∈ ms) → ns.length ≤ 40 → H d = none → Same H H' → Kc (.ref d) H') : tsrt w K σ H Kc := by
  refine ⟨_, h4, mt, ms, rfl, .inl (.inl hm), by omega, fun p c hp cl => ?_⟩
  have s1 := same_new hp (SetO w p (fun j => decide (j ∈ ms)) c)
  refine ⟨p, _, c, rfl, upd_same, by omega, fun ns d up mem _ hd => ?_⟩
  have s2 := same_new hd (.lst (ns.map V.int))
  refine go d ns _ upd_same up (fun k => by rw [mem k]; simp) ?_ (same_none s1 d hd) (s1.trans s2)
  have := rising_few up fun k hk => by simpa using (mem k).1 hk
  omega
def te7 (w : World) (K : PySem.W.Frag) : TE := tIf (tTest (tOp (rI0 fun i j => .bl (decide (j < i))) (tVar 6) (tC (.int 0)))) (tCall spBind [] E0 (tCons (tVar 0) (tCons (tsrt w K) tNil))) (tTupF tNil)
theorem te7_ok {T : List NTab} {H : Hp} {b a mt : Addr} {p : Str} {xs : List V} {ts : List Tm} {ms : List Int} {J : Nat} {H3 : Hp} {w : World} {K : PySem.W.Frag} {σ : L2.St} {i : Int} {Kc : V → Hp → Prop} (R : Rt T H b a mt p xs ts ms J H3) (h0 : σ[0]? = some (some (.ref b))) (h4 : σ[4]? = some (some (.ref mt))) (h6 : σ[6]? = some (some (.int i)))
    (few : ms.length ≤ 40) (mo : ∀ n ∈ ms, okN n) (mb : mt ≠ b) (hJ : J + 2500 ≤ 1000000)
    (go : ∀ (ab : Addr) (bd : Bd) (H4 : Hp), Rt T H b a mt p xs ts ms (J + 2500) H4 → BdAt H4 ab bd → okBd bd → bd.length ≤ 42 → Kc (.ref ab) H4) : te7 w K σ H3 Kc := by
  refine ⟨_, h6, _, _, rfl, rfl, decide ((0 : Int) < i), rfl, ?_⟩
  by_cases hi : (0 : Int) < i
  · rw [decide_eq_true hi]
    refine iteT ⟨_, h0, srt_ok h4 R.met few fun d ns H4 hd up mem nl hf s4 => ?_⟩
    have R4 := R.same s4
    obtain ⟨y, hb⟩ := R.box.some
    refine ⟨b, d, ns, J, rfl, R4.box, hd, (ne_of_none hb hf).symm, nl, fun n hn => mo n ((mem n).1 hn), hJ, fun ab bd H5 B5 okb bl BX o5 => go ab bd H5 (R4.draw mb o5 BX) B5 okb bl⟩
  · rw [decide_eq_false hi]
    refine iteF ⟨(by show 0 ≤ sizeLine; decide), fun g o od hg => ?_⟩
    have s4 := same_new hg (.frz o (.tup ([] : List V)))
    have R4 := R.same s4
    exact go g [] _ ⟨R4.box.more (by omega), R4.atm, R4.all, R4.met, R4.ext, R4.nn⟩ ⟨[], ⟨o, od, upd_same⟩, .nil, by simp, by simp⟩ (by simp [okBd]) (by simp)
abbrev NR : List Str := ["_law_box_here", "_law_words_here", "_law_many", "_law_atom", "_law_met_here", "_law_term_here", "_law_turn", "_law_pairs", "_law_stays", "_law_due", "_law_again", "_law_found", "_law_place"]
theorem scRight : FnScope NR ["_law_box_here", "_law_words_here"] (defScope sRight) := ⟨rfl, rfl, rfl, by decide +kernel, rfl, by decide +kernel, by decide +kernel⟩
def teT12 : TE := tCall (spLTerm 5) [] E0 (tCons (tVar 0) (tCons (tOp rAddI (tC (.int 1)) (tCall spTake [] E0 (tCons (tVar 0) (tCons (tC (.int 4)) tNil)))) tNil))
def teX5 : TE := tCall (spExch 31) [] E0 (tCons (tVar 5) (tCons (tVar 7) tNil))
theorem ok_right {T : List NTab} {f fT fPk fTm fMt fBd fX fAV fAP fS : Addr} {fd dT dPk dTm dMt dBd dX dAV dAP dS : FuncData} (F : Fun K "_law_right" "_law_right" sRight f fd)
    (GT : FnOk P w K mg base CX0 1 fT dT ["_law_box_here", "_law_top"] spTake) (kT : PySem.W.keepIn K (.ref fT) = true) (bT : Binds K dT ["_law_box_here", "_law_top"] []) (mT : mg "_law_take" = some (.ref fT))
    (GPk : FnOk P w K mg base CX0 2 fPk dPk ["_law_box_here", "_law_things"] spPick) (kPk : PySem.W.keepIn K (.ref fPk) = true) (bPk : Binds K dPk ["_law_box_here", "_law_things"] []) (mPk : mg "_law_pick" = some (.ref fPk))
    (GTm : FnOk P w K mg base CX0 7 fTm dTm ["_law_box_here", "_law_deep"] (spLTerm 5)) (kTm : PySem.W.keepIn K (.ref fTm) = true) (bTm : Binds K dTm ["_law_box_here", "_law_deep"] []) (mTm : mg "_law_term" = some (.ref fTm))
    (GMt : FnOk P w K mg base CX0 31 fMt dMt ["_law_term_here"] (spMet 31)) (kMt : PySem.W.keepIn K (.ref fMt) = true) (bMt : Binds K dMt ["_law_term_here"] []) (mMt : mg "_law_met" = some (.ref fMt))
    (GBd : FnOk P w K mg base CX0 8 fBd dBd ["_law_box_here", "_law_met_here"] spBind) (kBd : PySem.W.keepIn K (.ref fBd) = true) (bBd : Binds K dBd ["_law_box_here", "_law_met_here"] []) (mBd : mg "_law_binding" = some (.ref fBd))
    (GX : FnOk P w K mg base CX0 31 fX dX ["_law_term_here", "_law_pairs"] (spExch 31)) (kX : PySem.W.keepIn K (.ref fX) = true) (bX : Binds K dX ["_law_term_here", "_law_pairs"] []) (mX : mg "_law_exchanged" = some (.ref fX))
    (GAV : FnOk P w K mg base CX0 4 fAV dAV ["atom"] spAVars) (kAV : PySem.W.keepIn K (.ref fAV) = true) (bAV : Binds K dAV ["atom"] []) (mAV : mg "atom_variables" = some (.ref fAV))
    (GAP : FnOk P w K mg base CX0 5 fAP dAP ["atom", "binding"] (spAPut T)) (kAP : PySem.W.keepIn K (.ref fAP) = true) (bAP : Binds K dAP ["atom", "binding"] []) (mAP : mg "atom_put" = some (.ref fAP))
    (GS : FnOk P w K mg base CX0 52 fS dS ["_law_found", "_law_due"] (spSame 52)) (kS : PySem.W.keepIn K (.ref fS) = true) (bS : Binds K dS ["_law_found", "_law_due"] []) (mS : mg "_law_same" = some (.ref fS))
    (mRange : mg "range" = none) (mRepr : mg "repr" = none) (mTuple : mg "tuple" = none) (mSorted : mg "sorted" = none) (mSet : mg "set" = none) : GnOk P w K mg base 53 f fd ["_law_box_here", "_law_words_here"] (spRight T) := by
  refine gok F scRight (fun vs H Q E h => ?_) (fun cdv A outer s H vs Q E hg hr h => ?_)
  · obtain ⟨b, w, ws, j, rfl, _⟩ := h
    rfl
  obtain ⟨b, wl, ws, j, rfl, B, hw, wb, w4, wok, hT, hj, q⟩ := h
  have r1 : Room 1 _ := hr.mono (by decide)
  have r2 : Room 2 _ := hr.mono (by decide)
  have r4 : Room 4 _ := hr.mono (by decide)
  have r5 : Room 5 _ := hr.mono (by decide)
  have r7 : Room 7 _ := hr.mono (by decide)
  have r8 : Room 8 _ := hr.mono (by decide)
  have rX : Room 31 _ := hr.mono (by decide)
  refine ⟨_, (pss_cons (ps_set (i := 2) scRight.nd rfl (Or.inl rfl) (pe_op op_addI pe_int (pe_call GT r1 (by rfl) mT kT bT .nil pass0 (pa_cons (pv 0) (pa_cons pe_int pa_nil)))))
    (pss_cons (ps_set (i := 3) scRight.nd rfl (Or.inl rfl) (pe_op op_catT (pe_tup (pa_cons (pe_call GPk r2 (by rfl) mPk kPk bPk .nil pass0 (pa_cons (pv 0) (pa_cons (pv 1) pa_nil))) pa_nil)) (pe_callTy call_tuple_of (by rfl) mTuple (by decide +kernel) (pa_cons (pe_lc (own := [("_law_place", 12)]) (g := gName 12) (tt := tYes) (te := teT12) rfl scRight.nd (pi_range1 (by rfl) mRange (pa_cons (pv 2) pa_nil)) (blkOk_by (N := NR) (sc := defScope sRight) (by decide +kernel)) (fun _ _ _ _ _ => (pg_name (i := 12) scRight.nd rfl (Or.inl rfl))) (fun _ _ _ _ _ => pts_nil) (fun _ _ _ _ _ => (pe_call GTm r7 (by rfl) mTm kTm bTm .nil pass0 (pa_cons (pv 0) (pa_cons (pe_op op_addI pe_int (pe_call GT r1 (by rfl) mT kT bT .nil pass0 (pa_cons (pv 0) (pa_cons pe_int pa_nil)))) pa_nil))))) pa_nil))))
    (pss_cons (ps_set (i := 4) scRight.nd rfl (Or.inl rfl) (pe_lst pa_nil))
    (pss_cons (ps_for PassesOwn.never rfl (pi_tup (pe_slice sl_tup (pv 3) (po_some pe_int) po_none)) (pg_name (i := 5) scRight.nd rfl (Or.inl rfl))
      (pss_one (ps_set (i := 4) scRight.nd rfl (Or.inl rfl) (pe_op op_cat (pv 4) (pe_call GMt rX (by rfl) mMt kMt bMt .nil pass0 (pa_cons (pv 5) pa_nil))))))
    (pss_cons (ps_for PassesOwn.never rfl (pi_range1 (by rfl) mRange (pa_cons pe_int pa_nil)) (pg_name (i := 6) scRight.nd rfl (Or.inl rfl))
      (pss_cons (ps_set (i := 7) scRight.nd rfl (Or.inr rfl) (pe_ifExp (pt_cmpR op_gt (pv 6) pe_int (nomark _)) (pe_call GBd r8 (by rfl) mBd kBd bBd .nil pass0 (pa_cons (pv 0) (pa_cons (pe_callB (cr_sortedSet rfl) (by rfl) mSorted (by decide +kernel) (pa_cons (pe_callTy (cr_setI rfl) (by rfl) mSet (by decide +kernel) (pa_cons (pv 4) pa_nil)) pa_nil)) pa_nil))) (pe_tupF pa_nil)))
    (pss_cons (ps_par (i := 8) (j := 9) rfl scRight.nd rfl rfl (by decide) rfl rfl (pa_cons (pe_callB (cr_reprD hg (hu66 hr)) (by rfl) mRepr (by decide +kernel) (pa_cons (pe_lst (pa_cons (pv 3) (pa_cons (pv 7) pa_nil))) pa_nil)) (pa_cons (pe_op op_catT (pe_slice sl_tup (pv 3) po_none (po_some pe_int)) (pe_callTy call_tuple_of (by rfl) mTuple (by decide +kernel) (pa_cons (pe_lc (own := [("_law_term_here", 5)]) (g := gName 5) (tt := tYes) (te := teX5) rfl scRight.nd (pi_tup (pe_slice sl_tup (pv 3) (po_some pe_int) po_none)) (blkOk_by (N := NR) (sc := defScope sRight) (by decide +kernel)) (fun _ _ _ _ _ => (pg_name (i := 5) scRight.nd rfl (Or.inl rfl))) (fun _ _ _ _ _ => pts_nil) (fun _ _ _ _ _ => (pe_call GX rX (by rfl) mX kX bX .nil pass0 (pa_cons (pv 5) (pa_cons (pv 7) pa_nil))))) pa_nil))) pa_nil)) (by rfl))
    (pss_cons (ps_for PassesOwn.never rfl (pi_range1 (by rfl) mRange (pa_cons pe_int pa_nil)) (pg_name (i := 10) scRight.nd rfl (Or.inl rfl))
      (pss_cons (ps_set (i := 11) scRight.nd rfl (Or.inl rfl) (pe_call GAV r4 (by rfl) mAV kAV bAV .nil pass0 (pa_cons (pv 3) pa_nil)))
    (pss_cons (ps_if (PW.pt (pw_or (pt_not (pt_val (pe_call GS hr (by rfl) mS kS bS .nil pass0 (pa_cons (pv 11) (pa_cons (pe_callB (cr_sortedSet rfl) (by rfl) mSorted (by decide +kernel) (pa_cons (pe_callTy (cr_setI rfl) (by rfl) mSet (by decide +kernel) (pa_cons (pv 4) pa_nil)) pa_nil)) pa_nil))))) (pw_or1 (pt_not (pt_val (pe_call GS hr (by rfl) mS kS bS .nil pass0 (pa_cons (pe_call GAP r5 (by rfl) mAP kAP bAP .nil pass0 (pa_cons (pv 3) (pa_cons (pv 7) pa_nil))) (pa_cons (pv 9) pa_nil)))))))) (pss_one (ps_ret pe_bl)) pss_nil)
    (pss_cons (ps_expr (pe_bm0 PySem.F.plainAttrs_list PySem.F.slot_list_reverse PySem.F.type_list_reverse mt_reverse (pv 11)))
    (pss_one (ps_expr (pe_bm PySem.F.plainAttrs_list PySem.F.slot_list_append PySem.F.type_list_append mt_append (pv 11) (pa_cons pe_str pa_nil))))))))
    (pss_one (ps_if (pt_cmpR op_ne (pe_callB (cr_reprD hg (hu66 hr)) (by rfl) mRepr (by decide +kernel) (pa_cons (pe_lst (pa_cons (pv 3) (pa_cons (pv 7) pa_nil))) pa_nil)) (pv 8) (nomark _)) (pss_one (ps_ret pe_bl)) pss_nil))))))
    (pss_one (ps_ret pe_bl))))))), ?_⟩
  have big : (10000 : Nat) ≤ sizeLine := by decide
  refine ⟨_, rfl, b, _, _, rfl, B, by omega, by decide, by decide, fun r H1 r0 r2' B1 o1 => ?_⟩
  refine ⟨_, _, rfl, rfl, ?_⟩
  have hw1 := o1 _ _ hw wb
  -- the ATOM
  refine ⟨_, rfl, _, rfl, b, wl, _, _, rfl, B1, by omega, hw1, wb, by rw [List.length_map]; omega, by rw [List.length_map]; omega, fun v H2 hv B2 o2 => ?_⟩
  obtain ⟨p, hp, rfl⟩ := List.mem_map.mp hv
  have nm := wok p hp
  refine ⟨(by show 1 ≤ sizeLine; decide), fun c hc => ?_⟩
  have s3 := same_new hc (.tup [V.str p])
  have hc3 : (upd H2 c (.tup [V.str p])) c = some (.tup [V.str p]) := upd_same
  have o13 : But b H (upd H2 c (.tup [V.str p])) := (o1.trans o2).trans (but_of s3)
  have B3 := B2.same s3
  generalize upd H2 c (.tup [V.str p]) = H3 at s3 hc3 o13 B3
  refine ⟨_, rfl, _, rfl, by omega, by omega, fun D hD => ?_⟩
  have Db := ne_box B3 hD
  refine lc_it (walk_range (lo := 0) (n := (1 + r).toNat)) (fun i H4 => ∃ (ys : List V) (ts : List Tm), H4 D = some (.lst ys) ∧ AllAt H4 ys ts ∧ ts.length = i ∧ (∀ t ∈ ts, t.small ∧ t.size ≤ 31) ∧ BoxAt H4 b (j + 2 + 97 * i) ∧ But b H3 H4)
    ⟨[], [], upd_same, trivial, rfl, by simp, (B3.same (same_new hD _)).more (by omega), but_of (same_new hD _)⟩ (fun _ _ _ _ => trivial) ?_ ?_
  · rintro i x H0 H4 li ⟨ys, ts, h4, A4, tl, tok, B4, o4⟩ ⟨rfl, ex⟩
    refine ⟨rfl, ?_⟩
    unfold teT12
    refine ⟨_, rfl, _, rfl, b, _, _, rfl, B4, by omega, by decide, by decide, fun r' H5 c0 c1 B5 o5 => ?_⟩
    obtain ⟨dd, hdd, d4⟩ : ∃ dd : Nat, (1 : Int) + r' = (dd : Nat) ∧ dd ≤ 4 := ⟨(1 + r').toNat, by omega, by omega⟩
    have pw1 : 2 ^ dd ≤ 2 ^ 4 := Nat.pow_le_pow_right (by decide) d4
    have pw2 : 2 ^ (dd + 1) ≤ 2 ^ 5 := Nat.pow_le_pow_right (by decide) (by omega)
    refine ⟨_, _, rfl, rfl, b, _, dd, (by show [V.ref b, V.int (1 + r')] = _; rw [hdd]), B5, by omega, d4, by omega, fun v t H6 Tv sm sz B6 o6 => ?_⟩
    have h6 := o6 _ _ (o5 _ _ h4 Db) Db
    have u46 : Tups H4 H6 := (box_tups B4 o5).trans (box_tups B5 o6)
    have u7 : Tups H6 (upd H6 D (.lst (ys ++ [v]))) := Tups.but (but_upd _) h6
    have yl := A4.len
    refine ⟨ys, h6, by omega, ys ++ [v], ts ++ [t], upd_same, ((A4.mono u46.1).mono u7.1).append ⟨Tv.mono u7.1, trivial⟩, by rw [List.length_append, tl]; rfl, fun z hz => ?_, (B6.upd Db _).more (by omega), but_new hD o4 (o5.trans o6)⟩
    rcases List.mem_append.mp hz with hz | hz
    · exact tok z hz
    · rw [List.mem_singleton.mp hz]; exact ⟨sm, by omega⟩
  rintro H4 ⟨ys, ts, h4, A4, tl, tok, B4, o4⟩
  have yl := A4.len
  refine ⟨D, ys, rfl, .inl ⟨.inl (.inl h4), fun l hl => ?_⟩⟩
  have s5 := same_new hl (.tup ys)
  have hc5 := s5 _ _ ((box_tups B3 o4).1 _ _ hc3)
  refine ⟨c, l, _, _, rfl, rfl, .inl (.inl hc5), .inl (.inl upd_same), by simp, by rw [List.length_singleton]; omega, fun e => ?_, fun _ a ha => ?_⟩
  · rw [e, List.length_nil] at yl; omega
  have s6 := same_new ha (.tup ([V.str p] ++ ys))
  have ha6 : (upd (upd H4 l (.tup ys)) a (.tup ([V.str p] ++ ys))) a = some (.tup (.str p :: ys)) := upd_same
  have A6 := A4.mono (Tups.same (s5.trans s6)).1
  have B6 := (B4.same s5).same s6
  have o6 : But b H (upd (upd H4 l (.tup ys)) a (.tup ([V.str p] ++ ys))) := (o13.trans o4).trans (but_of (s5.trans s6))
  generalize upd (upd H4 l (.tup ys)) a (.tup ([V.str p] ++ ys)) = H6 at ha6 A6 B6 o6
  -- all its variables
  have t40 : ∀ t ∈ ts, t.small ∧ t.size ≤ 40 := fun t ht => ⟨(tok t ht).1, by have := (tok t ht).2; omega⟩
  have few : ∀ i, ((ts.take i).flatMap Tm.nums).length ≤ 40 := fun i => by
    have gen : ∀ l : List Tm, (∀ k ∈ l, k.nums.length ≤ 16) → (l.flatMap Tm.nums).length ≤ 16 * l.length := by
      intro l
      induction l with
      | nil => simp
      | cons k l ih =>
        intro h
        have := h k (by simp)
        have := ih fun j hj => h j (by simp [hj])
        rw [List.flatMap_cons, List.length_append, List.length_cons]; omega
    have := gen (ts.take i) fun k hk => by have := nums_half k; have := (tok k (List.mem_of_mem_take hk)).2; omega
    rw [List.length_take] at this
    omega
  refine ⟨(by show 0 ≤ sizeLine; decide), fun m0 hm0 => ?_⟩
  have s7 := same_new hm0 (.lst ([] : List V))
  have mb0 := ne_box B6 hm0
  refine ⟨_, rfl, 1, rfl, a, _, rfl, .inl (.inl (s7 _ _ ha6)), cut_part _ _, fun g hgn => ?_⟩
  rw [cut_tail]
  have s8 := same_new hgn (.tup ys)
  have s68 := s7.trans s8
  refine ⟨g, rfl, ⟨_, .inl (.inl upd_same)⟩, for_tup (K := K) (a := g) (xs := ys) (fun i σ H7 => ∃ (mt : Addr) (c5 : Option V), σ = [some (.ref b), some (.ref wl), some (.int (1 + r)), some (.ref a), some (.ref mt), c5, none, none, none, none, none, none, none] ∧ mt ≠ b ∧
      H7 mt = some (.lst (((ts.take i).flatMap Tm.nums).map V.int)) ∧ Same H6 H7 ∧ H7 g = some (.tup ys)) ⟨m0, none, rfl, mb0, s8 _ _ upd_same, s68, upd_same⟩ (fun i σ H7 _ ⟨_, _, _, _, _, _, e⟩ => .inl (.inl e)) ?_ ?_⟩
  · rintro i x σ H7 hi ⟨mt, c5, rfl, mb, hmt, s7', hgg⟩
    obtain ⟨t, ht, Tx⟩ := A6.get hi
    have tt := tok t (List.mem_of_getElem? ht)
    have dl := Tm.deep_lt t
    have hf := few i
    have hf1 := few (i + 1)
    have tk : ts.take (i + 1) = ts.take i ++ [t] := by rw [List.take_add_one, ht]; rfl
    refine ⟨_, rfl, _, rfl, x, t, rfl, Tx.same s7', by omega, by omega, fun p3 H8 e3 s8' => ?_⟩
    have nh := nums_half t
    refine ⟨mt, p3, _, _, rfl, rfl, s8' _ _ hmt, e3, by rw [List.length_map, List.length_map]; omega, fun p4 hp4 => ?_⟩
    have s9 := same_new hp4 (.lst (((ts.take i).flatMap Tm.nums).map V.int ++ t.nums.map V.int))
    refine ⟨p4, _, rfl, ?_, ?_, s7'.trans (s8'.trans s9), s9 _ _ (s8' _ _ hgg)⟩
    · obtain ⟨y, hb6⟩ := B6.some
      exact (ne_of_none (s8' _ _ (s7' _ _ hb6)) hp4).symm
    · rw [upd_same, tk, List.flatMap_append, ← List.map_append]; simp
  rintro σ H7 ⟨mt, c5, rfl, mb, hmt, s7', hgg⟩
  rw [yl, List.take_length] at hmt
  have fewm : (ts.flatMap Tm.nums).length ≤ 40 := by have := few ts.length; rwa [List.take_length] at this
  have mo : ∀ n ∈ ts.flatMap Tm.nums, okN n := fun n hn => by
    obtain ⟨t, ht, hn⟩ := List.mem_flatMap.mp hn
    exact (tok t ht).1 n hn
  have R7 : Rt T H b a mt p ys ts (ts.flatMap Tm.nums) (j + 300) H7 := by
    obtain ⟨y, hb⟩ := B.some
    have o7 := o6.trans (but_of s7')
    exact ⟨(B6.same s7').more (by omega), s7' _ _ ha6, A6.mono (Tups.same s7').1, hmt, ExtB.but hT hb o7, fun c h => but_none o7 (B6.same s7') h⟩
  -- four BINDINGs
  refine ⟨4, rfl, by decide, by decide, for_range (lo := 0) (fun i σ H3 => ∃ c5 c6 c7 c8 c9 c10 c11 : Option V, σ = [some (.ref b), some (.ref wl), some (.int (1 + r)), some (.ref a), some (.ref mt), c5, c6, c7, c8, c9, c10, c11, none] ∧
      Rt T H b a mt p ys ts (ts.flatMap Tm.nums) (j + 300 + 2500 * i) H3) ⟨_, _, _, _, _, _, _, rfl, R7⟩ ?_ ?_⟩
  · rintro i σ H8 hi ⟨c5, c6, c7, c8, c9, c10, c11, rfl, R8⟩
    refine te7_ok R8 rfl rfl rfl fewm mo mb (by omega) fun ab bd H9 R9 B9 okb bl => ?_
    have gshow : Gd 30000 55 (.list [amD p ts, bdD bd]) := ((GdA.cons ((gd_am nm (by omega) t40).more (Nat.le_refl _) (by decide : 50 ≤ 50)) (GdA.cons (gd_bd okb bl) (gda_nil 50))).lst).more (by decide) (by decide)
    obtain ⟨sh1, sh2, sh3, sh4⟩ := gshow.shown (by decide) (by decide)
    have dpd : ∀ {H' : Hp} {l : Addr}, H' l = some (.lst [V.ref a, V.ref ab]) → AmAt H' (.ref a) p ts → BdAt H' ab bd → Dp K H' (.ref l) (.list [amD p ts, bdD bd]) := fun h x y => .lst (.inl (.inl h)) (.cons (am_dp x) (.cons (bd_dp y) .nil))
    have two : ts.length ≤ 2 := by omega
    refine ⟨_, rfl, _, rfl, (by show 2 ≤ sizeLine; decide), fun l1 hl1 => ?_⟩
    have s10 := same_new hl1 (.lst [V.ref a, V.ref ab])
    have R10 := R9.same s10
    have B10 := B9.mono (Tups.same s10)
    refine ⟨_, _, rfl, dpd upd_same R10.at_ B10, sh1, sh2, sh3, sh4, ?_⟩
    generalize upd H9 l1 (.lst [V.ref a, V.ref ab]) = H10 at R10 B10
    -- what is due
    refine ⟨_, rfl, 1, rfl, a, _, rfl, .inl (.inl R10.atm), fun z => ?_, fun a1 ha1 => ?_⟩
    · have z2 := z.2
      have e0 := HT.sIx_nat (V.str p :: ys).length (V.str p :: ys).length 1
      rw [show ((1 : Nat) : Int) = 1 from rfl] at e0
      rw [e0, List.length_cons] at z2
      omega
    rw [cut_one]
    have s11 := same_new ha1 (.tup [V.str p])
    have R11 := R10.same s11
    have B11 := B10.mono (Tups.same s11)
    have ha1' : (upd H10 a1 (.tup [V.str p])) a1 = some (.tup [V.str p]) := upd_same
    generalize upd H10 a1 (.tup [V.str p]) = H11 at R11 B11 ha1'
    refine ⟨_, rfl, 1, rfl, a, _, rfl, .inl (.inl R11.atm), cut_part _ _, fun g2 hg2 => ?_⟩
    rw [cut_tail]
    have s12 := same_new hg2 (.tup ys)
    have R12 := R11.same s12
    have B12 := B11.mono (Tups.same s12)
    have ha2 := s12 _ _ ha1'
    have hgg2 : (upd H11 g2 (.tup ys)) g2 = some (.tup ys) := upd_same
    generalize upd H11 g2 (.tup ys) = H12 at R12 B12 ha2 hgg2
    refine ⟨g2, rfl, ⟨_, .inl (.inl hgg2)⟩, fun D2 hD2 => lc_tup (K := K) (a := g2) (xs := ys) (fun i H3 => ∃ zs : List V, H3 D2 = some (.lst zs) ∧ AllAt H3 zs ((ts.take i).map (Tm.put bd)) ∧ zs.length = i ∧ Same H12 H3)
      ⟨[], upd_same, trivial, rfl, same_new hD2 _⟩ (fun i H3 _ ⟨_, _, _, _, s⟩ => .inl (.inl (s _ _ hgg2))) ?_ ?_⟩
    · rintro k x H3 hk ⟨zs, h3, A3, zl, s3⟩
      obtain ⟨t, ht, Tx⟩ := R12.all.get hk
      have tt := tok t (List.mem_of_getElem? ht)
      have dl := Tm.deep_lt t
      have lk : k < ys.length := (List.getElem?_eq_some_iff.mp hk).1
      have tk : ts.take (k + 1) = ts.take k ++ [t] := by rw [List.take_add_one, ht]; rfl
      refine ⟨rfl, ?_⟩
      unfold teX5
      refine ⟨_, rfl, _, rfl, x, t, ab, bd, rfl, Tx.same s3, by omega, B12.mono (Tups.same s3), fun q hq => ⟨(okb q hq).2.1, by have := (okb q hq).2.2; omega⟩, fun v' H4 T4 s4 => ?_⟩
      have h4 := s4 _ _ h3
      have u6 : Tups H4 (upd H4 D2 (.lst (zs ++ [v']))) := Tups.but (but_upd _) h4
      refine ⟨zs, h4, by omega, zs ++ [v'], upd_same, ?_, by rw [List.length_append, zl]; rfl, fun c o z => by rw [upd_ne (ne_of_none z hD2)]; exact s4 _ _ (s3 _ _ z)⟩
      rw [tk, List.map_append]
      exact ((A3.mono (Tups.same s4).1).mono u6.1).append ⟨T4.mono u6.1, trivial⟩
    rintro H13 ⟨zs, h13, A13, zl, s13⟩
    rw [yl, List.take_length] at A13
    have R13 := R12.same s13
    have B13 := B12.mono (Tups.same s13)
    refine ⟨D2, zs, rfl, .inl ⟨.inl (.inl h13), fun l2 hl2 => ?_⟩⟩
    have s14 := same_new hl2 (.tup zs)
    refine ⟨a1, l2, _, _, rfl, rfl, .inl (.inl (s14 _ _ (s13 _ _ ha2))), .inl (.inl upd_same), by simp, by rw [List.length_singleton]; omega, fun e => ?_, fun _ dv hdv => ?_⟩
    · rw [e, List.length_nil] at zl; omega
    have s15 := same_new hdv (.tup ([V.str p] ++ zs))
    have s35 := s14.trans s15
    have R15 := R13.same s35
    have B15 := B13.mono (Tups.same s35)
    have D15 : AmAt (upd (upd H13 l2 (.tup zs)) dv (.tup ([V.str p] ++ zs))) (.ref dv) p (ts.map (Tm.put bd)) := ⟨dv, zs, rfl, upd_same, A13.mono (Tups.same s35).1⟩
    generalize upd (upd H13 l2 (.tup zs)) dv (.tup ([V.str p] ++ zs)) = H15 at R15 B15 D15
    refine ⟨_, _, rfl, ?_⟩
    refine ⟨2, rfl, by decide, by decide, for_range (lo := 0) (fun k σ H3 => ∃ c10 c11 : Option V, σ = [some (.ref b), some (.ref wl), some (.int (1 + r)), some (.ref a), some (.ref mt), c5, some (.int (0 + (i : Int))), some (.ref ab), some (.str (PyData.shown (.list [amD p ts, bdD bd]))), some (.ref dv), c10, c11, none] ∧
      Rt T H b a mt p ys ts (ts.flatMap Tm.nums) (j + 300 + 2500 * i + 2500) H3 ∧ BdAt H3 ab bd ∧ AmAt H3 (.ref dv) p (ts.map (Tm.put bd))) ⟨_, _, rfl, R15, B15, D15⟩ ?_ ?_⟩
    · rintro k σ H16 hk ⟨c10, c11, rfl, R16, B16, D16⟩
      refine ⟨_, rfl, .ref a, p, ts, rfl, R16.at_, two, fun t ht => (t40 t ht).2, fun g ns H17 hg0 hg17 up mem s17 => ?_⟩
      have gm : g ≠ mt := (ne_of_none R16.met hg0).symm
      have gb := ne_box R16.box hg0
      have gH := R16.nn g hg0
      have R17 := R16.same s17
      have B17 := B16.mono (Tups.same s17)
      have D17 := D16.mono (Tups.same s17).1
      refine ⟨_, rfl, srt_ok rfl R17.met fewm fun d ns' H18 hd18 up' mem' nl' _ s18 => ?_⟩
      obtain rfl : ns' = ns := rising_one up' up fun n => (mem' n).trans (mem n).symm
      refine ⟨_, _, 51, rfl, rfl, alike_ints (s18 _ _ hg17) hd18 (by omega), fun H19 s19 => ⟨true, rfl, iteF ?_⟩⟩
      have s79 := s18.trans s19
      have R19 := R17.same s79
      have B19 := B17.mono (Tups.same s79)
      have D19 := D17.mono (Tups.same s79).1
      have hg19 := s79 _ _ hg17
      refine ⟨_, rfl, _, rfl, .ref a, p, ts, ab, bd, rfl, R19.at_, two, fun t ht => by have := (t40 t ht).2; omega, B19, R19.ext.tab, fun v' H20 A20 e20 => ?_⟩
      have D20 := D19.mono e20.tups.1
      refine ⟨_, rfl, _, _, 51, rfl, rfl, alike_am A20 D20 (by rw [List.length_map]; exact two) (fun t ht => ?_), fun H21 s21 => ⟨true, rfl, iteF ?_⟩⟩
      · obtain ⟨u, hu, rfl⟩ := List.mem_map.mp ht
        have := put_deep okb u
        have := Tm.deep_lt u
        have := (tok u hu).2
        omega
      have R21 := (R19.more e20).same s21
      have B21 := (B19.mono e20.tups).mono (Tups.same s21)
      have D21 := D20.mono (Tups.same s21).1
      have hg21 := s21 _ _ (e20.lst hg19)
      refine ⟨_, rfl, .inl ⟨rfl, _, .inl (.inl hg21)⟩, g, _, rfl, rfl, hg21, ?_⟩
      refine ⟨_, rfl, .inl ⟨rfl, _, .inl (.inl upd_same)⟩, g, _, _, rfl, rfl, upd_same, by rw [List.length_reverse, List.length_map]; omega, ?_⟩
      rw [upd_upd]
      have u22 : Tups H21 (upd H21 g (.lst ((ns'.map V.int).reverse ++ [V.str "changed"]))) := Tups.but (but_upd _) hg21
      exact ⟨_, _, rfl, R21.list hg21 gH gb gm, B21.mono u22, D21.mono u22.1⟩
    · rintro σ H16 ⟨c10, c11, rfl, R16, B16, D16⟩
      refine ⟨_, rfl, _, rfl, (by show 2 ≤ sizeLine; decide), fun l3 hl3 => ?_⟩
      have s17 := same_new hl3 (.lst [V.ref a, V.ref ab])
      have R17 := R16.same s17
      refine ⟨_, _, rfl, dpd upd_same R17.at_ (B16.mono (Tups.same s17)), sh1, sh2, sh3, sh4, ?_⟩
      refine ⟨_, rfl, rfl, false, congrArg V.bl (by simp), iteF ?_⟩
      exact ⟨_, _, _, _, _, _, _, rfl, R17⟩
  · rintro σ H8 ⟨c5, c6, c7, c8, c9, c10, c11, rfl, R8⟩
    exact q H8 (R8.box.more (by omega)) R8.ext R8.nn
end
end Rp

set_option maxHeartbeats 8000000
/-! The law k10. -/
namespace Rp
open PySem PySem.Spec PyProof.Rows L2 TL NdefX LamX StX PpSet
def spLaw (T : List NTab) (K : PySem.W.Frag) : Sp := fun vs H Q _ => ∃ (a : Addr) (ns : List Int), vs = [.ref a] ∧ SqL K H a (ns.map V.int) ∧ ns.length ≤ 63 ∧ TabsN T H ∧ ∀ H', Q (.bl true) H'
section
variable {P : Program} {w : World} {K : PySem.W.Frag} {mg : Str → Option Value} {base : Heap}
abbrev NLw : List Str := ["_law_script", "_law_cells", "_law_k", "_law_box_here", "_law_words_here", "_law_turn"]
theorem scLaw : FnScope NLw ["_law_script"] (defScope sLaw) := ⟨rfl, rfl, rfl, by decide +kernel, rfl, by decide +kernel, by decide +kernel⟩
def teR (T : List NTab) : TE := tCall (spRight T) [] E0 (tCons (tVar 3) (tCons (tVar 4) tNil))
theorem ok_law {T : List NTab} {f fFo fB fW fR : Addr} {fd dFo dB dW dR : FuncData} (F : Fun K "law" "law" sLaw f fd)
    (GFo : FnOk P w K mg base CX0 1 fFo dFo ["_law_script", "_law_count"] (spFolded K)) (kFo : PySem.W.keepIn K (.ref fFo) = true) (bFo : Binds K dFo ["_law_script", "_law_count"] []) (mFo : mg "_law_folded" = some (.ref fFo))
    (GB : FnOk P w K mg base CX0 1 fB dB ["_law_script", "_law_k"] (spBox K)) (kB : PySem.W.keepIn K (.ref fB) = true) (bB : Binds K dB ["_law_script", "_law_k"] []) (mB : mg "_law_box" = some (.ref fB))
    (GW : FnOk P w K mg base CX0 2 fW dW ["_law_box_here", "_law_count"] spWords) (kW : PySem.W.keepIn K (.ref fW) = true) (bW : Binds K dW ["_law_box_here", "_law_count"] []) (mW : mg "_law_words" = some (.ref fW))
    (GR : GnOk P w K mg base 53 fR dR ["_law_box_here", "_law_words_here"] (spRight T)) (kR : PySem.W.keepIn K (.ref fR) = true) (bR : Binds K dR ["_law_box_here", "_law_words_here"] []) (mR : mg "_law_right" = some (.ref fR))
    (mRange : mg "range" = none) (mLen : mg "len" = none) (mAll : mg "all" = none) : GnOk P w K mg base 54 f fd ["_law_script"] (spLaw T K) := by
  refine gok F scLaw (fun vs H Q E h => ?_) (fun cdv A outer s H vs Q E hg hr h => ?_)
  · obtain ⟨a, ns, rfl, _⟩ := h
    rfl
  obtain ⟨a, ns, rfl, hS, hl, hT, q⟩ := h
  have r1 : Room 1 _ := hr.mono (by decide)
  have r2 : Room 2 _ := hr.mono (by decide)
  refine ⟨_, (pss_cons (ps_set (i := 1) scLaw.nd rfl (Or.inl rfl) (pe_call GFo r1 (by rfl) mFo kFo bFo .nil pass0 (pa_cons (pv 0) (pa_cons pe_int pa_nil))))
    (pss_cons (ps_for PassesOwn.never rfl (pi_range1 (by rfl) mRange (pa_cons (pe_callB call_len_seq (by rfl) mLen PySem.boot_len (pa_cons (pv 1) pa_nil)) pa_nil)) (pg_name (i := 2) scLaw.nd rfl (Or.inl rfl))
      (pss_cons (ps_set (i := 3) scLaw.nd rfl (Or.inr rfl) (pe_call GB r1 (by rfl) mB kB bB .nil pass0 (pa_cons (pv 1) (pa_cons (pv 2) pa_nil))))
    (pss_cons (ps_set (i := 4) scLaw.nd rfl (Or.inr rfl) (pe_call GW r2 (by rfl) mW kW bW .nil pass0 (pa_cons (pv 3) (pa_cons pe_int pa_nil))))
    (pss_one (ps_if (pt_not (pt_val (pe_callB (cr_all rfl) (by rfl) mAll (by decide +kernel) (pa_cons (pe_lc (own := [("_law_turn", 5)]) (g := gName 5) (tt := tYes) (te := teR T) rfl scLaw.nd (pi_range1 (by rfl) mRange (pa_cons pe_int pa_nil)) (blkOk_by (N := NLw) (sc := defScope sLaw) (by decide +kernel)) (fun _ _ _ _ _ => (pg_name (i := 5) scLaw.nd rfl (Or.inl rfl))) (fun _ _ _ _ _ => pts_nil) (fun _ _ _ _ _ => (pe_callG GR hg hr (by rfl) mR kR bR (pa_cons (pv 3) (pa_cons (pv 4) pa_nil))))) pa_nil)))) (pss_one (ps_ret pe_bl)) pss_nil)))))
    (pss_one (ps_ret pe_bl)))), ?_⟩
  have big : (600 : Nat) ≤ sizeLine := by decide
  refine ⟨_, rfl, a, ns, rfl, hS, hl, fun cl cs H1 hcl0 hcl c1 c4 s1 => ?_⟩
  refine ⟨_, rfl, cl, _, rfl, .inl (.inl (.inl hcl)), ?_⟩
  rw [List.length_map]
  refine ⟨_, rfl, by omega, by omega, for_range (lo := 0) (n := cs.length) (fun i σ H2 => ∃ x2 x3 x4 : Option V, σ = [some (.ref a), some (.ref cl), x2, x3, x4, none] ∧ H2 cl = some (.lst (cs.map V.int)) ∧ TabsN T H2)
    ⟨_, _, _, rfl, hcl, hT.ext s1⟩ ?_ (fun σ H2 ⟨_, _, _, e, _, _⟩ => q H2)⟩
  rintro i σ H2 hi ⟨x2, x3, x4, rfl, h2, t2⟩
  refine ⟨_, rfl, _, rfl, cl, cs, _, rfl, .inl (.inl h2), by omega, by omega, by omega, fun b H3 hb B3 s3 => ?_⟩
  have h3 := s3 _ _ h2
  have clb : cl ≠ b := ne_of_none h2 hb
  refine ⟨_, rfl, b, _, rfl, B3, by omega, fun wl ws H4 hw0 hw w4 wok B4 o4 => ?_⟩
  have wb := ne_box B3 hw0
  obtain ⟨y3, hb3⟩ := B3.some
  have t4 := tabs_but (t2.ext s3) hb3 o4
  have h4 := o4 _ _ h3 clb
  refine ⟨8, rfl, by decide, by decide, fun D hD => ?_⟩
  have Db := ne_box B4 hD
  have Dw : D ≠ wl := (ne_of_none hw hD).symm
  have Dc : D ≠ cl := (ne_of_none h4 hD).symm
  have s5 := same_new hD (.lst ([] : List V))
  refine lc_it (walk_range (lo := 0) (n := 8)) (fun i H5 => H5 D = some (.lst (List.replicate i (V.bl true))) ∧ BoxAt H5 b (20 + 12000 * i) ∧ H5 wl = some (.lst (ws.map V.str)) ∧ H5 cl = some (.lst (cs.map V.int)) ∧ TabsN T H5)
    ⟨upd_same, (B4.same s5).more (by omega), s5 _ _ hw, s5 _ _ h4, t4.ext s5⟩ (fun _ _ _ _ => trivial) ?_ ?_
  · rintro k x H0 H5 lk ⟨h5, B5, w5, c5, t5⟩ ⟨rfl, ex⟩
    refine ⟨rfl, ?_⟩
    unfold teR
    refine ⟨_, rfl, _, rfl, b, wl, ws, _, rfl, B5, w5, wb, w4, wok, t5, by omega, fun H6 B6 e6 _ => ?_⟩
    have h6 := e6.lst h5 Db
    refine ⟨_, h6, by rw [List.length_replicate]; omega, by rw [upd_same, List.replicate_succ'], (B6.upd Db _).more (by omega), by rw [upd_ne Dw.symm]; exact e6.lst w5 wb, by rw [upd_ne Dc.symm]; exact e6.lst c5 clb, tabs_but e6.tab h6 (but_upd _)⟩
  · rintro H5 ⟨h5, B5, w5, c5, t5⟩
    have e : (List.replicate 8 true).all id = true := by decide
    refine ⟨D, List.replicate 8 true, rfl, .inl (.inl (by rw [List.map_replicate]; exact h5)), ?_⟩
    rw [e]
    exact ⟨true, rfl, iteF ⟨_, _, _, rfl, c5, t5⟩⟩
end
end Rp

/-! The end of a law whose promise is a GnOk, and in whose run a def within a def is made: its table of code objects is tracked. -/
namespace Rp
open PySem PySem.Spec PyProof.Rows L2 LamX NdefX
/-- the law's own call; Pt: the table of the def that makes the inner one -/
theorem law_callGT {Pr : Program} {w : World} {K : PySem.W.Frag} {mg mb : Str → Option Value} {k : Nat} {fa a c Pt : Addr} {fd : FuncData} {x : Str} {sp : Sp} {s₁ : Shared} {vs : List Value} {ns : List Int}
    (KX : K.In s₁.heap) (hns : s₁.heap.Ns mainGlobals mg) (hb : s₁.heap.Ns builtinsNs mb) (hbb : ∀ x : Str, x ≠ "__name__" → mb x = bootBuiltins x) (hlim : s₁.heap.NoLimit) (hg : s₁.gens = #[])
    (hT : s₁.heap.get? Pt = some { cls := .none, data := .fields #[] }) (nT : K.lookup Pt = none) (C : PySem.W.CodeHd s₁.heap c Pt)
    (hbm : ∃ (bm : Addr) (ob : Obj), mg "__builtins__" = some (.ref bm) ∧ bm ≠ builtinsNs ∧ s₁.heap.get? bm = some ob ∧ ob.cls = .type "module" ∧ ob.dict = some builtinsNs ∧ ob.data = .plain)
    (ha : s₁.heap.get? a = some { cls := .type "list", data := .seq vs.toArray }) (hi : IntsAre vs ns) (hl : ns.length ≤ sizeLine) (hr : Room k callerA)
    (F : ∀ base : Heap, K.In base → base.Ns mainGlobals mg → TabB base mg c Pt → GnOk Pr w K mg base k fa fd [x] sp) (bind : ∀ (s : Shared) (u : Value), BindsTo s fd ⟨[u], []⟩ [(x, u)])
    (ask : ∀ H : Hp, H Pt = some (.tbl #[]) → SqL K H a (ns.map V.int) → sp [.ref a] H (fun v _ => v = .bl true) E0) :
    codeAny (model Pr w) callerA (.call (.ref fa) ⟨[.ref a], []⟩) (fun r s' => r = .ok (.ret (.bool true)) ∧ OldK s₁.heap s'.heap ∧ s'.os = s₁.os ∧ AllBare s'.gens) s₁ := by
  have rv := vals_ints hi
  have lenV := hi.length
  have aP : a ≠ Pt := by
    rintro rfl
    rw [ha] at hT
    have z : Data.seq vs.toArray _ = Data.fields #[] := congrArg Obj.data (Option.some.inj hT)
    cases z
  have from_ : ∀ H : Hp, H Pt = some (.tbl #[]) → (∀ b, b ≠ Pt → H b = none ∨ ∃ o ys, H b = some (.frz o (.lst ys))) → SqL K H a (ns.map V.int) → HOk Pr w H s₁.heap → (∀ b, H b ≠ none → b = Pt ∨ (b = a ∧ K.lookup a = none)) →
      codeAny (model Pr w) callerA (.call (.ref fa) ⟨[.ref a], []⟩) (fun r s' => r = .ok (.ret (.bool true)) ∧ OldK s₁.heap s'.heap ∧ s'.os = s₁.os ∧ AllBare s'.gens) s₁ := by
    intro H hP only hS hok hA
    have free : ∀ {b : Addr} {o : Obj}, s₁.heap.get? b = some o → o.data ≠ .fields #[] → (b = a → False) → H b = none := fun {b o} e n1 n2 => by
      cases q : H b with
      | none => rfl
      | some u =>
        rcases hA b (by rw [q]; simp) with z | z
        · subst z
          rw [hT] at e
          cases e
          exact (n1 rfl).elim
        · exact (n2 z.1).elim
    have low : ∀ {b : Addr} {o : Obj}, s₁.heap.get? b = some o → H b = none → (hidT s₁.heap H).get? b = some o := fun e n => hidT_get e n
    have apart : ∀ {b : Addr} {o : Obj}, s₁.heap.get? b = some o → (∀ us n, o.data ≠ .seq us n) → b = a → False := fun {b o} e n z => by
      subst z
      rw [ha] at e
      cases e
      exact n _ _ rfl
    have names : ∀ {b : Addr} {m : Str → Option Value}, s₁.heap.Ns b m → (hidT s₁.heap H).Ns b m := fun {b m} ⟨o, es, ep, e, d, r⟩ =>
      ⟨o, es, ep, low e (free e (by rw [d]; intro z; cases z) (apart e (by rw [d]; intro us n z; cases z))), d, r⟩
    have hK : K.In (hidT s₁.heap H) := fun b o e => low (KX b o e) (by
      cases q : H b with
      | none => rfl
      | some u =>
        rcases hA b (by rw [q]; simp) with z | ⟨z, zk⟩
        · subst z; rw [nT] at e; cases e
        · subst z; rw [zk] at e; cases e)
    have M : Mod K mg (hidT s₁.heap H) := ⟨hK, names hns, ⟨mb, names hb, hbb⟩, let ⟨mc, h1, h2⟩ := hlim; ⟨mc, names h1, h2⟩⟩
    have gP : mainGlobals ≠ Pt := by
      rintro rfl
      obtain ⟨o, es, ep, e, d, _⟩ := hns
      rw [hT] at e
      cases e
      cases d
    have TB : TabB (hidT s₁.heap H) mg c Pt := by
      refine ⟨?_, ?_, gP⟩
      · obtain ⟨o, us, file, tf, flags, tg, inF, text, tt, e1, r1, r2, r3, r4, r5, r6, r7, r8, hne⟩ := C
        refine ⟨o, us, file, tf, flags, tg, inF, text, tt, low e1 (free e1 (fun z => ?_) (apart e1 fun us n z => ?_)), r1, r2, r3, r4, r5, r6, r7, r8, hne⟩
        · rw [r2] at z
          cases z
          simp at r3
        · rw [r2] at z; cases z
      · obtain ⟨bm, ob, b1, b2, b3, b4, b5, b6⟩ := hbm
        refine ⟨bm, ob, b1, b2, fun z => ?_, fun z => ?_, low b3 (free b3 (by rw [b6]; intro z; cases z) (apart b3 (by rw [b6]; intro us n z; cases z))), b4, b5, b6⟩
        · obtain ⟨o, es, ep, e, d, _⟩ := hns
          rw [z, e] at b3
          cases b3
          rw [d] at b6; cases b6
        · rw [z, hT] at b3
          cases b3
          cases b6
    have e0 : Env0 Pr w K mg (hidT s₁.heap H) callerA [] s₁ H := ⟨rfl, M, fun b o e => of_hidT e, Nat.le_of_eq (hidT_size _ _), trivial, fun b z => absurd (show b ∈ ([] : List Addr) from z) (by simp), hok, .of_eq hg⟩
    refine codeAny_mono ((F _ hK (names hns) TB).run callerA [] s₁ H ⟨[.ref a], []⟩ [.ref a] [.ref a] _ _ rfl hr e0 (bind s₁ (.ref a)) (.cons rfl .nil) (ask H hP hS)) fun r s' h => ?_
    rcases r with e | fl
    · exact h.elim
    · rcases fl with _ | _ | _ | u
      · exact h.elim
      · exact h.elim
      · exact h.elim
      · obtain ⟨v, H', os, bare, un, hok', r', q⟩ := h
        obtain rfl : v = .bl true := q
        obtain rfl : u = Value.bool true := r'
        have same : ∀ b o, b ≠ Pt → s₁.heap.get? b = some o → s'.heap.get? b = some o := fun b o nb e => by
          cases q : H b with
          | none => exact un.keep b o e q (by intro z; exact absurd (show b ∈ ([] : List Addr) from z) (by simp)) (by simp)
          | some u =>
            rcases only b nb with z | ⟨ob, ys, z⟩
            · rw [q] at z; cases z
            · obtain ⟨e1, _⟩ := hok b _ z
              obtain ⟨e2, _⟩ := hok' b _ (un.frzs b ob _ z)
              rw [e] at e1; cases e1
              exact e2
        obtain ⟨more, grown⟩ : ∃ more : Array Value, s'.heap.get? Pt = some { cls := .none, data := .fields more } := by
          obtain ⟨more, z⟩ := un.tbls Pt #[] hP
          exact ⟨_, hok' Pt _ z⟩
        refine ⟨rfl, ⟨fun b o e => ?_, fun b o e => ?_⟩, os, bare⟩
        · by_cases nb : b = Pt
          · subst nb
            rw [hT] at e
            cases e
            exact .inr (.inl ⟨(C.tab hT).isCodeTable, rfl, #[], more, rfl, by rw [Array.empty_append]; exact grown⟩)
          · exact .inl (same b o nb e)
        · by_cases nb : b = Pt
          · subst nb
            exact ⟨_, grown⟩
          · exact ⟨o, same b o nb e⟩
  cases hk : K.lookup a with
  | some o =>
    have e := KX a o hk
    rw [ha] at e
    cases e
    refine from_ (fun b => if b = Pt then some (.tbl #[]) else none) (if_pos rfl) (fun b nb => .inl (if_neg nb)) (.inr ⟨_, vs.toArray, _, hk, rfl, rfl, rfl, by rw [List.size_toArray, lenV]; exact hl, by simpa using rv⟩) (fun b u z => ?_) fun b z => ?_
    · by_cases nb : b = Pt
      · subst nb
        have z' := (if_pos rfl).symm.trans z
        cases z'
        exact hT
      · have z' := (if_neg nb).symm.trans z
        cases z'
    · by_cases nb : b = Pt
      · exact .inl nb
      · exact absurd (if_neg nb) z
  | none =>
    refine from_ (fun b => if b = Pt then some (.tbl #[]) else if b = a then some (.frz { cls := .type "list", data := .seq vs.toArray } (.lst (ns.map V.int))) else none) (if_pos rfl) (fun b nb => ?_) (.inl (.inr ⟨_, (if_neg aP).trans (if_pos rfl)⟩)) (fun b u z => ?_) fun b z => ?_
    · by_cases n2 : b = a
      · exact .inr ⟨_, _, (if_neg nb).trans (if_pos n2)⟩
      · exact .inl ((if_neg nb).trans (if_neg n2))
    · by_cases nb : b = Pt
      · subst nb
        have z' := (if_pos rfl).symm.trans z
        cases z'
        exact hT
      · have z1 := (if_neg nb).symm.trans z
        by_cases n2 : b = a
        · subst n2
          have z' := (if_pos rfl).symm.trans z1
          cases z'
          exact ⟨ha, by rw [List.length_map]; exact hl, vs, _, rv, ha⟩
        · have z' := (if_neg n2).symm.trans z1
          cases z'
    · by_cases nb : b = Pt
      · exact .inl nb
      · by_cases n2 : b = a
        · exact .inr ⟨n2, hk⟩
        · exact absurd ((if_neg nb).trans (if_neg n2)) z
/-- a def of this name makes inner ones; its table is nobody else's -/
def tabB (K : PySem.W.Frag) (x : Str) : Bool := match PySem.W.tabIn K x with
  | some q => (K.lookup q.2).isNone
  | none => false
theorem tab_told {K : PySem.W.Frag} {x : Str} (h : tabB K x = true) : ∃ c Pt, PySem.W.tabIn K x = some (c, Pt) ∧ K.lookup Pt = none := by
  unfold tabB at h
  split at h
  · rename_i q hq
    exact ⟨q.1, q.2, hq, by simpa using h⟩
  · cases h
theorem walk_ofGT {l : PySem.W.OpenLaw} {n k : Nat} {q : Program} {loose : List Str} {XP : (Str → Option Value) → Heap → Prop} {YP : World → Heap → Prop} {d : DefRec} {K : Params → PySem.W.Frag} {sp : List NTab → PySem.W.Frag → Sp} {x y : Str} {nm : Nat → Nat → Str}
    (hn : l.most = some n) (hn2 : n ≤ sizeLine) (hdf : d.params.defaults = []) (hr : Room k callerA) (hY : ∀ (w : World) (h : Heap), YP w h → (K w.params).In h)
    (hrec : ((recsOf q).find? fun e => e.name == y).isSome = true) (htab : ∀ w : World, tabB (K w.params) y = true)
    (F : ∀ (w : World) (mg : Str → Option Value) (fa c Pt : Addr) (h : Heap), (K w.params).In h → h.Ns mainGlobals mg → mg d.name = some (.ref fa) → PySem.W.tabIn (K w.params) y = some (c, Pt) →
      ∃ fd : FuncData, (∀ (s : Shared) (u : Value), BindsTo s fd ⟨[u], []⟩ [(x, u)]) ∧ ∀ base : Heap, (K w.params).In base → base.Ns mainGlobals mg → TabB base mg c Pt → GnOk l.prog w (K w.params) mg base k fa fd [x] (sp [(Pt, nm)] (K w.params)))
    (ask : ∀ (K : PySem.W.Frag) (H : Hp) (a Pt : Addr) (ns : List Int), ns.length ≤ n → H Pt = some (.tbl #[]) → SqL K H a (ns.map V.int) → sp [(Pt, nm)] K [.ref a] H (fun v _ => v = .bl true) E0) :
    PySem.W.WalkO q loose XP YP l.row.toRowW d [] (fun f vs => PySem.call f vs) := by
  refine Att.attach_call hn hdf fun w s₀ s₁ mg mb fa o pm cd doc a vs ns G Y ho hd hcd hmg hobj hints hlen hg => ?_
  have KX := hY w _ Y
  obtain ⟨c, Pt, ht, nT⟩ := tab_told (htab w)
  obtain ⟨dd, hdd⟩ := Option.isSome_iff_exists.mp hrec
  obtain ⟨C, hT⟩ := PySem.W.tab_of G.T KX hdd ht
  obtain ⟨fd, hb, hF⟩ := F w mg fa c Pt _ KX G.T.g hmg ht
  exact law_callGT KX G.T.g G.T.b G.T.builtins G.T.nolimit hg hT nT C G.T.bmain hobj hints (Nat.le_trans hlen hn2) hr hF hb fun H hP hS => ask _ H a Pt ns hlen hP hS
end Rp

namespace Rp
open PySem L2
theorem all_mk {l : PySem.W.OpenLaw} {w : World} {K : PySem.W.Frag} {h : Heap} {mg : Str → Option Value} {fa f1 f2 f3 f4 f5 f6 f7 f8 f9 f10 f11 f12 f13 f14 f15 f16 f17 f18 f19 f20 : Addr} (X : K.In h) (G : h.Ns mainGlobals mg) (hfa : mg "law" = some (.ref fa))
    {od1 an1 od2 an2 od3 an3 od4 an4 od5 an5 od6 an6 od7 an7 od8 an8 od9 an9 od10 an10 od11 an11 od12 an12 od13 an13 od14 an14 od15 an15 od16 an16 od17 an17 od18 an18 od19 an19 od20 an20 : Option Addr} {sl1 sl2 sl3 sl4 sl5 sl6 sl7 sl8 sl9 sl10 sl11 sl12 sl13 sl14 sl15 sl16 sl17 sl18 sl19 sl20 : Array (Option Value)} {oc1 kV1 dc1 pm1 cd1 ct1 oc2 kV2 dc2 pm2 cd2 ct2 oc3 kV3 dc3 pm3 cd3 ct3 oc4 kV4 dc4 pm4 cd4 ct4 oc5 kV5 dc5 pm5 cd5 ct5 oc6 kV6 dc6 pm6 cd6 ct6 oc7 kV7 dc7 pm7 cd7 ct7 oc8 kV8 dc8 pm8 cd8 ct8 oc9 kV9 dc9 pm9 cd9 ct9 oc10 kV10 dc10 pm10 cd10 ct10 oc11 kV11 dc11 pm11 cd11 ct11 oc12 kV12 dc12 pm12 cd12 ct12 oc13 kV13 dc13 pm13 cd13 ct13 oc14 kV14 dc14 pm14 cd14 ct14 oc15 kV15 dc15 pm15 cd15 ct15 oc16 kV16 dc16 pm16 cd16 ct16 oc17 kV17 dc17 pm17 cd17 ct17 oc18 kV18 dc18 pm18 cd18 ct18 oc19 kV19 dc19 pm19 cd19 ct19 oc20 kV20 dc20 pm20 cd20 ct20 : Value}
    {c Pt : Addr} (ht : PySem.W.tabIn K "put" = some (c, Pt))
    (a1 : PySem.W.nsIn K mainGlobals "_parts" = some (some (.ref f1))) (l1 : K.lookup f1 = some ⟨oc1, od1, .func (PySem.W.fnOf "_parts" "_parts" (defArgs sParts) (defBody sParts) (defScope sParts) .none kV1 dc1 pm1 an1 cd1 ct1), sl1⟩) (c1 : PySem.W.codeIn K cd1 "_parts" = true) (k1 : PySem.W.keepIn K (.ref f1) = true)
    (a2 : PySem.W.nsIn K mainGlobals "inside_out" = some (some (.ref f2))) (l2 : K.lookup f2 = some ⟨oc2, od2, .func (PySem.W.fnOf "inside_out" "inside_out" (defArgs sInside) (defBody sInside) (defScope sInside) .none kV2 dc2 pm2 an2 cd2 ct2), sl2⟩) (c2 : PySem.W.codeIn K cd2 "inside_out" = true) (k2 : PySem.W.keepIn K (.ref f2) = true)
    (a3 : PySem.W.nsIn K mainGlobals "fold" = some (some (.ref f3))) (l3 : K.lookup f3 = some ⟨oc3, od3, .func (PySem.W.fnOf "fold" "fold" (defArgs sFold) (defBody sFold) (defScope sFold) .none kV3 dc3 pm3 an3 cd3 ct3), sl3⟩) (c3 : PySem.W.codeIn K cd3 "fold" = true) (k3 : PySem.W.keepIn K (.ref f3) = true)
    (a4 : PySem.W.nsIn K mainGlobals "variables" = some (some (.ref f4))) (l4 : K.lookup f4 = some ⟨oc4, od4, .func (PySem.W.fnOf "variables" "variables" (defArgs sVars) (defBody sVars) (defScope sVars) .none kV4 dc4 pm4 an4 cd4 ct4), sl4⟩) (c4 : PySem.W.codeIn K cd4 "variables" = true) (k4 : PySem.W.keepIn K (.ref f4) = true)
    (a5 : PySem.W.nsIn K mainGlobals "put" = some (some (.ref f5))) (l5 : K.lookup f5 = some ⟨oc5, od5, .func (PySem.W.fnOf "put" "put" (defArgs sPut) (defBody sPut) (defScope sPut) .none kV5 dc5 pm5 an5 cd5 ct5), sl5⟩) (c5 : PySem.W.codeIn K cd5 "put" = true) (k5 : PySem.W.keepIn K (.ref f5) = true)
    (a6 : PySem.W.nsIn K mainGlobals "atom_variables" = some (some (.ref f6))) (l6 : K.lookup f6 = some ⟨oc6, od6, .func (PySem.W.fnOf "atom_variables" "atom_variables" (defArgs sAtomVars) (defBody sAtomVars) (defScope sAtomVars) .none kV6 dc6 pm6 an6 cd6 ct6), sl6⟩) (c6 : PySem.W.codeIn K cd6 "atom_variables" = true) (k6 : PySem.W.keepIn K (.ref f6) = true)
    (a7 : PySem.W.nsIn K mainGlobals "atom_put" = some (some (.ref f7))) (l7 : K.lookup f7 = some ⟨oc7, od7, .func (PySem.W.fnOf "atom_put" "atom_put" (defArgs sAtomPut) (defBody sAtomPut) (defScope sAtomPut) .none kV7 dc7 pm7 an7 cd7 ct7), sl7⟩) (c7 : PySem.W.codeIn K cd7 "atom_put" = true) (k7 : PySem.W.keepIn K (.ref f7) = true)
    (a8 : PySem.W.nsIn K mainGlobals "_law_box" = some (some (.ref f8))) (l8 : K.lookup f8 = some ⟨oc8, od8, .func (PySem.W.fnOf "_law_box" "_law_box" (defArgs sBox) (defBody sBox) (defScope sBox) .none kV8 dc8 pm8 an8 cd8 ct8), sl8⟩) (c8 : PySem.W.codeIn K cd8 "_law_box" = true) (k8 : PySem.W.keepIn K (.ref f8) = true)
    (a9 : PySem.W.nsIn K mainGlobals "_law_take" = some (some (.ref f9))) (l9 : K.lookup f9 = some ⟨oc9, od9, .func (PySem.W.fnOf "_law_take" "_law_take" (defArgs sTake) (defBody sTake) (defScope sTake) .none kV9 dc9 pm9 an9 cd9 ct9), sl9⟩) (c9 : PySem.W.codeIn K cd9 "_law_take" = true) (k9 : PySem.W.keepIn K (.ref f9) = true)
    (a10 : PySem.W.nsIn K mainGlobals "_law_pick" = some (some (.ref f10))) (l10 : K.lookup f10 = some ⟨oc10, od10, .func (PySem.W.fnOf "_law_pick" "_law_pick" (defArgs sPick) (defBody sPick) (defScope sPick) .none kV10 dc10 pm10 an10 cd10 ct10), sl10⟩) (c10 : PySem.W.codeIn K cd10 "_law_pick" = true) (k10 : PySem.W.keepIn K (.ref f10) = true)
    (a11 : PySem.W.nsIn K mainGlobals "_law_folded" = some (some (.ref f11))) (l11 : K.lookup f11 = some ⟨oc11, od11, .func (PySem.W.fnOf "_law_folded" "_law_folded" (defArgs sFolded) (defBody sFolded) (defScope sFolded) .none kV11 dc11 pm11 an11 cd11 ct11), sl11⟩) (c11 : PySem.W.codeIn K cd11 "_law_folded" = true) (k11 : PySem.W.keepIn K (.ref f11) = true)
    (a12 : PySem.W.nsIn K mainGlobals "_law_same" = some (some (.ref f12))) (l12 : K.lookup f12 = some ⟨oc12, od12, .func (PySem.W.fnOf "_law_same" "_law_same" (defArgs sSame) (defBody sSame) (defScope sSame) .none kV12 dc12 pm12 an12 cd12 ct12), sl12⟩) (c12 : PySem.W.codeIn K cd12 "_law_same" = true) (k12 : PySem.W.keepIn K (.ref f12) = true)
    (a13 : PySem.W.nsIn K mainGlobals "_law_words" = some (some (.ref f13))) (l13 : K.lookup f13 = some ⟨oc13, od13, .func (PySem.W.fnOf "_law_words" "_law_words" (defArgs sWords) (defBody sWords) (defScope sWords) .none kV13 dc13 pm13 an13 cd13 ct13), sl13⟩) (c13 : PySem.W.codeIn K cd13 "_law_words" = true) (k13 : PySem.W.keepIn K (.ref f13) = true)
    (a14 : PySem.W.nsIn K mainGlobals "_law_variable" = some (some (.ref f14))) (l14 : K.lookup f14 = some ⟨oc14, od14, .func (PySem.W.fnOf "_law_variable" "_law_variable" (defArgs sVariableL) (defBody sVariableL) (defScope sVariableL) .none kV14 dc14 pm14 an14 cd14 ct14), sl14⟩) (c14 : PySem.W.codeIn K cd14 "_law_variable" = true) (k14 : PySem.W.keepIn K (.ref f14) = true)
    (a15 : PySem.W.nsIn K mainGlobals "_law_term" = some (some (.ref f15))) (l15 : K.lookup f15 = some ⟨oc15, od15, .func (PySem.W.fnOf "_law_term" "_law_term" (defArgs sTermL) (defBody sTermL) (defScope sTermL) .none kV15 dc15 pm15 an15 cd15 ct15), sl15⟩) (c15 : PySem.W.codeIn K cd15 "_law_term" = true) (k15 : PySem.W.keepIn K (.ref f15) = true)
    (a16 : PySem.W.nsIn K mainGlobals "_law_met" = some (some (.ref f16))) (l16 : K.lookup f16 = some ⟨oc16, od16, .func (PySem.W.fnOf "_law_met" "_law_met" (defArgs sMet) (defBody sMet) (defScope sMet) .none kV16 dc16 pm16 an16 cd16 ct16), sl16⟩) (c16 : PySem.W.codeIn K cd16 "_law_met" = true) (k16 : PySem.W.keepIn K (.ref f16) = true)
    (a17 : PySem.W.nsIn K mainGlobals "_law_exchanged" = some (some (.ref f17))) (l17 : K.lookup f17 = some ⟨oc17, od17, .func (PySem.W.fnOf "_law_exchanged" "_law_exchanged" (defArgs sExch) (defBody sExch) (defScope sExch) .none kV17 dc17 pm17 an17 cd17 ct17), sl17⟩) (c17 : PySem.W.codeIn K cd17 "_law_exchanged" = true) (k17 : PySem.W.keepIn K (.ref f17) = true)
    (a18 : PySem.W.nsIn K mainGlobals "_law_binding" = some (some (.ref f18))) (l18 : K.lookup f18 = some ⟨oc18, od18, .func (PySem.W.fnOf "_law_binding" "_law_binding" (defArgs sBindL) (defBody sBindL) (defScope sBindL) .none kV18 dc18 pm18 an18 cd18 ct18), sl18⟩) (c18 : PySem.W.codeIn K cd18 "_law_binding" = true) (k18 : PySem.W.keepIn K (.ref f18) = true)
    (a19 : PySem.W.nsIn K mainGlobals "_law_right" = some (some (.ref f19))) (l19 : K.lookup f19 = some ⟨oc19, od19, .func (PySem.W.fnOf "_law_right" "_law_right" (defArgs sRight) (defBody sRight) (defScope sRight) .none kV19 dc19 pm19 an19 cd19 ct19), sl19⟩) (c19 : PySem.W.codeIn K cd19 "_law_right" = true) (k19 : PySem.W.keepIn K (.ref f19) = true)
    (a20 : PySem.W.nsIn K mainGlobals "law" = some (some (.ref f20))) (l20 : K.lookup f20 = some ⟨oc20, od20, .func (PySem.W.fnOf "law" "law" (defArgs sLaw) (defBody sLaw) (defScope sLaw) .none kV20 dc20 pm20 an20 cd20 ct20), sl20⟩) (c20 : PySem.W.codeIn K cd20 "law" = true) (k20 : PySem.W.keepIn K (.ref f20) = true)
    (z1 : PySem.W.nsIn K mainGlobals "isinstance" = some none)
    (z2 : PySem.W.nsIn K mainGlobals "int" = some none)
    (z3 : PySem.W.nsIn K mainGlobals "len" = some none)
    (z4 : PySem.W.nsIn K mainGlobals "sorted" = some none)
    (z5 : PySem.W.nsIn K mainGlobals "list" = some none)
    (z6 : PySem.W.nsIn K mainGlobals "tuple" = some none)
    (z7 : PySem.W.nsIn K mainGlobals "all" = some none)
    (z8 : PySem.W.nsIn K mainGlobals "zip" = some none)
    (z9 : PySem.W.nsIn K mainGlobals "str" = some none)
    (z10 : PySem.W.nsIn K mainGlobals "bool" = some none)
    (z11 : PySem.W.nsIn K mainGlobals "range" = some none)
    (z12 : PySem.W.nsIn K mainGlobals "abs" = some none)
    (z13 : PySem.W.nsIn K mainGlobals "repr" = some none)
    (z14 : PySem.W.nsIn K mainGlobals "set" = some none)
    (z15 : PySem.W.nsIn K mainGlobals "enumerate" = some none)
    (z16 : PySem.W.nsIn K mainGlobals "dict" = some none)
    : ∃ fd : FuncData, (∀ (s : Shared) (v : Value), BindsTo s fd ⟨[v], []⟩ [("_law_script", v)]) ∧ ∀ base : Heap, K.In base → base.Ns mainGlobals mg → LamX.TabB base mg c Pt → GnOk l.prog w K mg base 54 fa fd ["_law_script"] (spLaw [(Pt, nmEx)] K) := by
  have e := hfa.symm.trans (PySem.W.mg_of X G a20)
  cases e
  have F1 := fun_mk (st := sParts) l1 c1 k1
  have b1 := F1.binds (ps := ["term"]) fun _ _ _ _ _ _ us hl => match us, hl with | [_], _ => rfl
  have m1 := PySem.W.mg_of X G a1
  have F2 := fun_mk (st := sInside) l2 c2 k2
  have b2 := F2.binds (ps := ["term"]) fun _ _ _ _ _ _ us hl => match us, hl with | [_], _ => rfl
  have m2 := PySem.W.mg_of X G a2
  have F3 := fun_mk (st := sFold) l3 c3 k3
  have b3 := F3.binds (ps := ["term", "made_of"]) fun _ _ _ _ _ _ us hl => match us, hl with | [_, _], _ => rfl
  have m3 := PySem.W.mg_of X G a3
  have F4 := fun_mk (st := sVars) l4 c4 k4
  have b4 := F4.binds (ps := ["term"]) fun _ _ _ _ _ _ us hl => match us, hl with | [_], _ => rfl
  have m4 := PySem.W.mg_of X G a4
  have F5 := fun_mk (st := sPut) l5 c5 k5
  have b5 := F5.binds (ps := ["term", "binding"]) fun _ _ _ _ _ _ us hl => match us, hl with | [_, _], _ => rfl
  have m5 := PySem.W.mg_of X G a5
  have F6 := fun_mk (st := sAtomVars) l6 c6 k6
  have b6 := F6.binds (ps := ["atom"]) fun _ _ _ _ _ _ us hl => match us, hl with | [_], _ => rfl
  have m6 := PySem.W.mg_of X G a6
  have F7 := fun_mk (st := sAtomPut) l7 c7 k7
  have b7 := F7.binds (ps := ["atom", "binding"]) fun _ _ _ _ _ _ us hl => match us, hl with | [_, _], _ => rfl
  have m7 := PySem.W.mg_of X G a7
  have F8 := fun_mk (st := sBox) l8 c8 k8
  have b8 := F8.binds (ps := ["_law_script", "_law_k"]) fun _ _ _ _ _ _ us hl => match us, hl with | [_, _], _ => rfl
  have m8 := PySem.W.mg_of X G a8
  have F9 := fun_mk (st := sTake) l9 c9 k9
  have b9 := F9.binds (ps := ["_law_box_here", "_law_top"]) fun _ _ _ _ _ _ us hl => match us, hl with | [_, _], _ => rfl
  have m9 := PySem.W.mg_of X G a9
  have F10 := fun_mk (st := sPick) l10 c10 k10
  have b10 := F10.binds (ps := ["_law_box_here", "_law_things"]) fun _ _ _ _ _ _ us hl => match us, hl with | [_, _], _ => rfl
  have m10 := PySem.W.mg_of X G a10
  have F11 := fun_mk (st := sFolded) l11 c11 k11
  have b11 := F11.binds (ps := ["_law_script", "_law_count"]) fun _ _ _ _ _ _ us hl => match us, hl with | [_, _], _ => rfl
  have m11 := PySem.W.mg_of X G a11
  have F12 := fun_mk (st := sSame) l12 c12 k12
  have b12 := F12.binds (ps := ["_law_found", "_law_due"]) fun _ _ _ _ _ _ us hl => match us, hl with | [_, _], _ => rfl
  have m12 := PySem.W.mg_of X G a12
  have F13 := fun_mk (st := sWords) l13 c13 k13
  have b13 := F13.binds (ps := ["_law_box_here", "_law_count"]) fun _ _ _ _ _ _ us hl => match us, hl with | [_, _], _ => rfl
  have m13 := PySem.W.mg_of X G a13
  have F14 := fun_mk (st := sVariableL) l14 c14 k14
  have b14 := F14.binds (ps := ["_law_box_here"]) fun _ _ _ _ _ _ us hl => match us, hl with | [_], _ => rfl
  have m14 := PySem.W.mg_of X G a14
  have F15 := fun_mk (st := sTermL) l15 c15 k15
  have b15 := F15.binds (ps := ["_law_box_here", "_law_deep"]) fun _ _ _ _ _ _ us hl => match us, hl with | [_, _], _ => rfl
  have m15 := PySem.W.mg_of X G a15
  have F16 := fun_mk (st := sMet) l16 c16 k16
  have b16 := F16.binds (ps := ["_law_term_here"]) fun _ _ _ _ _ _ us hl => match us, hl with | [_], _ => rfl
  have m16 := PySem.W.mg_of X G a16
  have F17 := fun_mk (st := sExch) l17 c17 k17
  have b17 := F17.binds (ps := ["_law_term_here", "_law_pairs"]) fun _ _ _ _ _ _ us hl => match us, hl with | [_, _], _ => rfl
  have m17 := PySem.W.mg_of X G a17
  have F18 := fun_mk (st := sBindL) l18 c18 k18
  have b18 := F18.binds (ps := ["_law_box_here", "_law_met_here"]) fun _ _ _ _ _ _ us hl => match us, hl with | [_, _], _ => rfl
  have m18 := PySem.W.mg_of X G a18
  have F19 := fun_mk (st := sRight) l19 c19 k19
  have b19 := F19.binds (ps := ["_law_box_here", "_law_words_here"]) fun _ _ _ _ _ _ us hl => match us, hl with | [_, _], _ => rfl
  have m19 := PySem.W.mg_of X G a19
  have F20 := fun_mk (st := sLaw) l20 c20 k20
  have y1 := PySem.W.mg_none_of X G z1
  have y2 := PySem.W.mg_none_of X G z2
  have y3 := PySem.W.mg_none_of X G z3
  have y4 := PySem.W.mg_none_of X G z4
  have y5 := PySem.W.mg_none_of X G z5
  have y6 := PySem.W.mg_none_of X G z6
  have y7 := PySem.W.mg_none_of X G z7
  have y8 := PySem.W.mg_none_of X G z8
  have y9 := PySem.W.mg_none_of X G z9
  have y10 := PySem.W.mg_none_of X G z10
  have y11 := PySem.W.mg_none_of X G z11
  have y12 := PySem.W.mg_none_of X G z12
  have y13 := PySem.W.mg_none_of X G z13
  have y14 := PySem.W.mg_none_of X G z14
  have y15 := PySem.W.mg_none_of X G z15
  have y16 := PySem.W.mg_none_of X G z16
  refine ⟨PySem.W.fnOf "law" "law" (defArgs sLaw) (defBody sLaw) (defScope sLaw) .none kV20 dc20 pm20 an20 cd20 ct20, fun s v => .of_eq rfl, fun base _ _ TB => ?_⟩
  have M : SameG mg := ⟨y1, y5, y6, y3, y7, y8, y9, y2, y10⟩
  have hcode := PySem.W.law_code X G ht m5 (X _ _ l5) rfl
  have GP := ok_parts (P := l.prog) (w := w) (base := base) F1 y1 y2
  have GI := ok_inside (P := l.prog) (w := w) (base := base) F2 F1 b1 m1 y1 y2
  have GF := ok_fold F3 GI k2 b2 m2 GP k1 b1 m1 y3 y1 y2
  have GU := ok_put F5 hcode TB GF k3 b3 m3 y16
  have GV := ok_vars F4 GI k2 b2 m2 y4 y1 y2
  have GAV := ok_avars F6 GV k4 b4 m4 y4
  have GAP := ok_aput F7 GU k5 b5 m5
  have GB := ok_box (P := l.prog) (w := w) (base := base) F8 y3 y12 y2
  have GT := ok_take (P := l.prog) (w := w) (mg := mg) (base := base) F9
  have GPk := ok_pick (P := l.prog) (w := w) (base := base) F10 F9 b9 m9 y3
  have GFo := ok_folded (P := l.prog) (w := w) (base := base) F11 y5 y15
  have GS := same_ok (P := l.prog) (w := w) (base := base) F12 b12 m12 M 52
  have GW := ok_words (P := l.prog) (w := w) (base := base) F13 F9 b9 m9 y11 y3
  have GVr := ok_lvar (P := l.prog) (w := w) (base := base) F14 F9 b9 m9
  have GTm := lterm_ok F15 b15 m15 F9 b9 m9 GVr k14 b14 m14 5
  have GMt := met_ok (P := l.prog) (w := w) (base := base) F16 b16 m16 y1 y2 31
  have GX := exch_ok (P := l.prog) (w := w) (base := base) F17 b17 m17 y1 y2 y6 31
  have GBd := ok_bind F18 GT k9 b9 m9 GVr k14 b14 m14 GTm k15 b15 m15 y4 y14 y15 y3 y6
  have GR := ok_right F19 GT k9 b9 m9 GPk k10 b10 m10 GTm k15 b15 m15 GMt k16 b16 m16 GBd k18 b18 m18 GX k17 b17 m17 GAV k6 b6 m6 GAP k7 b7 m7 GS k12 b12 m12 y11 y13 y6 y4 y14
  exact ok_law F20 GFo k11 b11 m11 GB k8 b8 m8 GW k13 b13 m13 GR k19 b19 m19 y11 y3 y7
theorem walk {l : PySem.W.OpenLaw} {q : Program} {loose : List Str} {XP : (Str → Option Value) → Heap → Prop} {YP : World → Heap → Prop} {d : DefRec} {K : Params → PySem.W.Frag} (hn : l.most = some 63) (hdf : d.params.defaults = [])
    (hY : ∀ (w : World) (h : Heap), YP w h → (K w.params).In h) (hrec : ((PyProof.Rows.recsOf q).find? fun e => e.name == ("put" : Str)).isSome = true) (htab : ∀ w : World, tabB (K w.params) "put" = true)
    (F : ∀ (w : World) (mg : Str → Option Value) (fa c Pt : Addr) (h : Heap), (K w.params).In h → h.Ns mainGlobals mg → mg d.name = some (.ref fa) → PySem.W.tabIn (K w.params) "put" = some (c, Pt) →
      ∃ fd : FuncData, (∀ (s : Shared) (u : Value), BindsTo s fd ⟨[u], []⟩ [("_law_script", u)]) ∧ ∀ base : Heap, (K w.params).In base → base.Ns mainGlobals mg → LamX.TabB base mg c Pt → GnOk l.prog w (K w.params) mg base 54 fa fd ["_law_script"] (spLaw [(Pt, nmEx)] (K w.params))) :
    PySem.W.WalkO q loose XP YP l.row.toRowW d [] (fun f vs => PySem.call f vs) :=
  walk_ofGT (n := 63) (k := 54) (x := "_law_script") (sp := spLaw) (nm := nmEx) hn (by decide) hdf ⟨rfl, by decide, by decide⟩ hY hrec htab F
    (fun _ _ a Pt ns hl hP hS => ⟨a, ns, rfl, hS, hl, fun p hp => by rw [List.mem_singleton.mp hp]; exact NdefX.TabN.nil hP, fun _ => rfl⟩)
end Rp
open PySem PySem.W PyProof.Rows
set_option maxRecDepth 100000 in
set_option maxHeartbeats 0 in
theorem PySem.Challenge.cw_ringproofs_k10_atoms_put_holds : PySem.Challenge.rw_ringproofs_k10_atoms_put.Holds := by
  w_on; o_law; k_head; (case hw => w_witness2)
  k_fill
  refine Rp.walk (l := PySem.Challenge.rw_ringproofs_k10_atoms_put) rfl rfl (fun w h Y => PySem.W.km_in_of Y) ?hR ?hT ?F
  case hR => kernel_rfl
  case hT => intro w; kernel_rfl
  case F =>
    intro w mg fa c Pt h KX G hmg ht
    refine' Rp.all_mk KX G hmg ht ?a1 ?l1 ?c1 ?k1 ?a2 ?l2 ?c2 ?k2 ?a3 ?l3 ?c3 ?k3 ?a4 ?l4 ?c4 ?k4 ?a5 ?l5 ?c5 ?k5 ?a6 ?l6 ?c6 ?k6 ?a7 ?l7 ?c7 ?k7 ?a8 ?l8 ?c8 ?k8 ?a9 ?l9 ?c9 ?k9 ?a10 ?l10 ?c10 ?k10 ?a11 ?l11 ?c11 ?k11 ?a12 ?l12 ?c12 ?k12 ?a13 ?l13 ?c13 ?k13 ?a14 ?l14 ?c14 ?k14 ?a15 ?l15 ?c15 ?k15 ?a16 ?l16 ?c16 ?k16 ?a17 ?l17 ?c17 ?k17 ?a18 ?l18 ?c18 ?k18 ?a19 ?l19 ?c19 ?k19 ?a20 ?l20 ?c20 ?k20 ?z1 ?z2 ?z3 ?z4 ?z5 ?z6 ?z7 ?z8 ?z9 ?z10 ?z11 ?z12 ?z13 ?z14 ?z15 ?z16
    (case a1 => k_is); (case l1 => k_is); (case c1 => k_is); (case k1 => k_is)
    (case a2 => k_is); (case l2 => k_is); (case c2 => k_is); (case k2 => k_is)
    (case a3 => k_is); (case l3 => k_is); (case c3 => k_is); (case k3 => k_is)
    (case a4 => k_is); (case l4 => k_is); (case c4 => k_is); (case k4 => k_is)
    (case a5 => k_is); (case l5 => k_is); (case c5 => k_is); (case k5 => k_is)
    (case a6 => k_is); (case l6 => k_is); (case c6 => k_is); (case k6 => k_is)
    (case a7 => k_is); (case l7 => k_is); (case c7 => k_is); (case k7 => k_is)
    (case a8 => k_is); (case l8 => k_is); (case c8 => k_is); (case k8 => k_is)
    (case a9 => k_is); (case l9 => k_is); (case c9 => k_is); (case k9 => k_is)
    (case a10 => k_is); (case l10 => k_is); (case c10 => k_is); (case k10 => k_is)
    (case a11 => k_is); (case l11 => k_is); (case c11 => k_is); (case k11 => k_is)
    (case a12 => k_is); (case l12 => k_is); (case c12 => k_is); (case k12 => k_is)
    (case a13 => k_is); (case l13 => k_is); (case c13 => k_is); (case k13 => k_is)
    (case a14 => k_is); (case l14 => k_is); (case c14 => k_is); (case k14 => k_is)
    (case a15 => k_is); (case l15 => k_is); (case c15 => k_is); (case k15 => k_is)
    (case a16 => k_is); (case l16 => k_is); (case c16 => k_is); (case k16 => k_is)
    (case a17 => k_is); (case l17 => k_is); (case c17 => k_is); (case k17 => k_is)
    (case a18 => k_is); (case l18 => k_is); (case c18 => k_is); (case k18 => k_is)
    (case a19 => k_is); (case l19 => k_is); (case c19 => k_is); (case k19 => k_is)
    (case a20 => k_is); (case l20 => k_is); (case c20 => k_is); (case k20 => k_is)
    (case z1 => k_is); (case z2 => k_is); (case z3 => k_is); (case z4 => k_is)
    (case z5 => k_is); (case z6 => k_is); (case z7 => k_is); (case z8 => k_is)
    (case z9 => k_is); (case z10 => k_is); (case z11 => k_is); (case z12 => k_is)
    (case z13 => k_is); (case z14 => k_is); (case z15 => k_is); (case z16 => k_is)

