import PyProof.Rows.All
import Wide.All
import OpenK.AllK
import Wide.FinOn
import HandS.ForMost
import HandS.IsInst
import HandS.Style
import HandS.Set
import HandS.Strs
import HandS.SetBool
import HandS.SetFor
import PySem.Challenge.RW_ringproofs_k11_rules_as_texts
import HandS.Zip
import HandS.Deep
import HandS.Flow
import PyProof.Rows.RegFStrParts
import HandS.FStr
import HandS.Text
import HandS.CallLocal
import HandS.Codes
import PyProof.StrLaws
import HandS.Rev
import HandS.StrMore
import HandS.ReplaceLit
import HandS.ReplaceDef
import KE.KUnpackStar
import HandS.Walk
import HandS.Steps
import HandS.Star
import HandS.Conv
import HandS.SetKeys
set_option Elab.async false
set_option linter.all false
set_option maxRecDepth 100000
set_option maxHeartbeats 4000000
/-! Two rules that the layer lacks: a comprehension that makes a set of ints, and set(xs) of a list of ints whose table is known well enough to be sorted afterwards. -/
namespace Rp
open PySem PySem.Spec PyProof.Rows L2 PpSet

section addi
variable {X : Cx}
/-- an int goes into a tracked set of ints -/
theorem putInt {pins : List (Addr × Obj)} {σ : L2.St} {H : Hp} {s : Shared} {E : Value → Shared → Prop} {D : Addr} {S : Int → Bool} {n : Nat} {y : Int} {t : Tok} {Q : Value → Shared → Prop}
    (I : Inv X pins σ H s) (hD : H D = some (SetO X.w D S n)) (few : n + 1 < scanBound)
    (go : ∀ s', Inv X pins σ (upd H D (SetO X.w D (fun j => S j || decide (j = y)) (if S y = true then n else n + 1))) s' → Q .none s') :
    wpAny (model X.prog X.w) X.A (call (.builtin "set.add") [.ref D, .int y t]) Q E s :=
  setR_add (setO_get I hD) few fun h' same now =>
    have there : ∃ u, h'.get? D = some u := let ⟨o, _, _, _, ho, _⟩ := now; ⟨o, ho⟩
    go _ (I.write (e := D) (t' := s.toks + 1) (by rw [hD]; trivial) (.inl rfl) (fun b u ne hu => (same.2 b ne).trans hu) there (setO_new now))

/-- what {e for x in .. if ..} asks where e is an int -/
def tScI (w : World) (wi : TI) (g : TG) (tt : TT) (te : TE) (vs : List Nat) : TE := fun σ H Q => wi σ H fun J H1 => ∀ D, H1 D = none →
  ∃ W : Nat → Nat → Hp → Prop, (∃ m, W 0 m (upd H1 D (SetO w D (fun _ => false) 0))) ∧ ∀ i m H, W i m H → (J.stop i H ∧ Q (.ref D) H) ∨
    (J.go i H ∧ ∃ Nx : Hp → Prop, (∀ H', Nx H' → ∃ m', m' < m ∧ W (i + 1) m' H') ∧ ∀ x H', J.yld i H x H' → g x (wipe σ vs) H' fun σ2 H2 => wipe σ2 vs = wipe σ vs ∧
      tt σ2 H2 fun b H3 => if b = true then te σ2 H3 fun y H4 => ∃ (k : Int) (S : Int → Bool) (n : Nat), y = .int k ∧ H4 D = some (SetO w D S n) ∧ n + 1 < scanBound ∧
        Nx (upd H4 D (SetO w D (fun j => S j || decide (j = k)) (if S k = true then n else n + 1))) else Nx H3)

abbrev emptySet (w : World) : Obj := { cls := .type "set", dict := none, data := .set #[] 0 (.fresh 0 0 (!w.params.followText "set-order")) }

theorem pe_scI {elt tg iter : Expr} {ifs : List Expr} {scope : Scope} {own : List (PySem.Str × Nat)} {pos : Pos} {wi : TI} {g : TG} {tt : TT} {te : TE}
    (hc : X.calm = true) (hN : X.N.Nodup) (hi : PI X tg iter wi) (ok : BlkOk X.N X.env.scope scope own)
    (hg : ∀ (s : Shared) (H : Hp) (C : Addr) (cl : List (PySem.Str × Addr)) (fp : List Addr), PG (X.blk s H scope (compEnvC scope cl C X.env) fp) tg g)
    (ht : ∀ (s : Shared) (H : Hp) (C : Addr) (cl : List (PySem.Str × Addr)) (fp : List Addr), PTs (X.blk s H scope (compEnvC scope cl C X.env) fp) ifs tt)
    (he : ∀ (s : Shared) (H : Hp) (C : Addr) (cl : List (PySem.Str × Addr)) (fp : List Addr), PE (X.blk s H scope (compEnvC scope cl C X.env) fp) elt te)
    (hs : ∀ x, foldedSetIterable iter X.env x = pure x := by intro _; rfl) :
    PE X (.SetComp elt [⟨tg, iter, ifs, 0⟩] scope pos) (tScI X.w wi g tt te (own.map (·.2))) := by
  refine ⟨fun pins s σ H Q I h => ?_⟩
  rw [eval_SetComp]
  have caught : ∀ y ∈ scope.names, y.2 = .free → ∃ c, X.env.cells.lookup y.1 = some c := fun y hy e =>
    (ok.free y hy e).elim (fun k => I.ok.has _ (.inl k)) fun k => I.ok.has _ (.inr k)
  refine wpAny_comprehension_free (use := none) rfl hs (closure_ok caught) ok.kind (fun y hy e => (ok.uniq y hy).trans (by rw [e])) (thn (hi.run pins s σ H _ I h) fun xv s1 hx => thn hx fun itv s2 h2 => ?_)
  obtain ⟨it, fp, tn, J, H2, rfl, I2, T, st2, f2, q⟩ := h2
  refine newSet_ok (newEnv_comp ?_)
  -- the new set's place
  obtain ⟨D, hD⟩ : ∃ D, s2.heap.objs.size = D := ⟨_, rfl⟩
  rw [hD]
  obtain ⟨W, ⟨m0, w0⟩, turn⟩ := q D (I2.hok.fresh (Nat.le_of_eq hD))
  obtain ⟨s3, hs3⟩ : ∃ s3 : Shared, { s2 with heap := s2.heap.push (emptySet X.w) } = s3 := ⟨_, rfl⟩
  have h3 : s3.heap = s2.heap.push (emptySet X.w) := by rw [← hs3]
  have I3 : Inv X pins σ (upd H2 D (SetO X.w D (fun _ => false) 0)) s3 := by
    have z := I2.laid (a := D) (o := SetO X.w D (fun _ => false) 0) (t' := s2.toks) (h' := s2.heap.push (emptySet X.w)) (fun b o e => Heap.get?_push_of_some _ e) (Nat.le_of_eq hD) (by rw [← hD]; exact setO_new (setR_fresh X.w))
    exact hs3 ▸ z
  have low : ∀ b ∈ fp, b < s2.heap.objs.size := fun b hb => let ⟨o, e, _⟩ := T.obj _ _ st2 b hb; Heap.lt_size e
  have f3 : ∀ b ∈ fp, FpOk X pins (upd H2 D (SetO X.w D (fun _ => false) 0)) b ∧ b < s3.heap.objs.size := fun b hb =>
    ⟨⟨(upd_ne (by rw [← hD]; exact Nat.ne_of_lt (low b hb))).trans (f2 b hb).1, (f2 b hb).2⟩, by rw [h3, Heap.size_push]; exact Nat.lt_succ_of_lt (low b hb)⟩
  have st3 : tn 0 s3.heap := T.keep _ _ _ st2 fun b _ o e => h3 ▸ Heap.get?_push_of_some _ e
  have I4 := block_start I3 ok hN f3
  obtain ⟨H3, hH3⟩ : ∃ H3, upd H2 D (SetO X.w D (fun _ => false) 0) = H3 := ⟨_, rfl⟩
  rw [hH3] at I3 f3 I4 w0
  obtain ⟨C, hC⟩ : ∃ C, s3.heap.objs.size = C := ⟨_, rfl⟩
  rw [hC] at I4
  have pg := hg s3 H3 C (cellsFrom (C + 1) scope.names (cloFrom X.env.cells scope.names [])) fp
  have pt := ht s3 H3 C (cellsFrom (C + 1) scope.names (cloFrom X.env.cells scope.names [])) fp
  have pe := he s3 H3 C (cellsFrom (C + 1) scope.names (cloFrom X.env.cells scope.names [])) fp
  subst hs3
  have hC' : (s2.heap.push (emptySet X.w)).objs.size = C := hC
  show codeAny _ _ (.compStart (.SetComp elt [⟨tg, iter, ifs, 0⟩] scope pos) 0 (.ref it) (.ref D) (compEnvC scope (cellsFrom ((s2.heap.push (emptySet X.w)).objs.size + 1) scope.names (cloFrom X.env.cells scope.names [])) (s2.heap.push (emptySet X.w)).objs.size X.env))
    (compPost (model X.prog X.w) X.A X.xe none (EP X pins σ Q) (.ref D) (s2.heap.push (emptySet X.w)).objs.size) { s2 with heap := pushCells ((s2.heap.push (emptySet X.w)).push { cls := .type "dict", data := .dict #[] }) scope.names }
  rw [hC']
  obtain ⟨ce, hce⟩ : ∃ ce, compEnvC scope (cellsFrom (C + 1) scope.names (cloFrom X.env.cells scope.names [])) C X.env = ce := ⟨_, rfl⟩
  rw [hce] at I4 pg pt pe ⊢
  have cL : ce.locals = C := by subst hce; rfl
  obtain ⟨s4, hs4⟩ : ∃ s4 : Shared, { s2 with heap := pushCells ((s2.heap.push (emptySet X.w)).push { cls := .type "dict", data := .dict #[] }) scope.names } = s4 := ⟨_, rfl⟩
  have I4 : Inv (X.blk _ H3 scope ce fp) [] (wipe σ (own.map (·.2))) H3 s4 := hs4 ▸ I4
  rw [hs4]
  have st4 : tn 0 s4.heap := T.keep _ _ _ st3 fun b _ o e => by rw [← hs4]; exact pushCells_keeps _ _ _ _ (Heap.get?_push_of_some _ e)
  obtain ⟨Y, hY⟩ : ∃ Y, X.blk { s2 with heap := s2.heap.push (emptySet X.w) } H3 scope ce fp = Y := ⟨_, rfl⟩
  have rest : ∀ {σ' : L2.St} {H' : Hp} {s' : Shared}, Inv Y [] σ' H' s' → (∀ b ∈ fp, H' b = none) → ∀ b ∈ fp, FpOk Y [] H' b := by
    subst hY
    intro σ' H' s' I' hn b hb
    exact ⟨hn b hb, (I'.ok.exf b hb).1, I'.ok.exfs b hb, .inl hb, fun x c e => (I'.ok.exf b hb).2 x c e, fun p hp => absurd (show p ∈ ([] : List (Addr × Obj)) ++ [] from hp) (by simp)⟩
  have round : codeAny (model X.prog X.w) X.A (.compLoop (.SetComp elt [⟨tg, iter, ifs, 0⟩] scope pos) 0 (.ref it) (.ref D) ce) (compPost (model X.prog X.w) X.A X.xe none (EP X pins σ Q) (.ref D) C) s4 := by
    refine compLoopS_any (fun n s' => ∃ i H', Inv Y [] (wipe σ (own.map (·.2))) H' s' ∧ tn i s'.heap ∧ (∀ b ∈ fp, H' b = none) ∧ W i n H') ?_ m0 ⟨0, H3, hY ▸ I4, st4, fun b hb => (f3 b hb).1.1, w0⟩
    rintro n s5 ⟨i, H5, I5, st5, n5, w5⟩
    rcases turn i n H5 w5 with ⟨stop, qq⟩ | ⟨go, Nx, hNx, step⟩
    · subst hY
      refine thnF (T.done (X.blk _ H3 scope ce fp) rfl rfl rfl hc i [] s5 _ H5 (fun _ _ => False) I5 (rest I5 n5) st5 stop) fun r s6 ⟨hr, I6⟩ => ?_
      subst hr
      have I7 : Inv X pins σ H5 s6 := I3.call' (ch := fp) I6.os I6.base I6.hok I6.bare fun b hb => ⟨(f3 b hb).1.2.2.2.1, (f3 b hb).1.2.1, (f3 b hb).1.2.2.2.2.1, (f3 b hb).1.2.2.2.2.2⟩
      have nC : H5 C = none := cL ▸ (show H5 ce.locals = none from I6.free)
      obtain ⟨m, hn, _⟩ := I6.loc
      have hn : s6.heap.Ns C m := cL ▸ (show s6.heap.Ns ce.locals m from hn)
      refine ⟨m, hn, fun h'' sb => ?_⟩
      obtain ⟨g0, g1, g2, g3, g4, g5⟩ := I3.fpOk (Nat.le_of_eq hC) nC
      exact ⟨.ref D, H5, I7.turned (t' := s6.toks) (fun b o hb e => (sb.2 b hb).trans e) g0 g1 g3 g4 g5, rfl, qq⟩
    · have ti := T.item Y (by subst hY; rfl) (by subst hY; rfl) (by subst hY; rfl) (by subst hY; exact hc) i [] s5 _ H5 (fun _ _ => False) I5 (rest I5 n5) st5 go
      subst hY
      refine thnF ti fun r s6 ⟨u, hr, h6⟩ => ?_
      subst hr
      refine thnF h6 fun _ s7 ⟨x, H7, I7, r7, y7, st7, n7⟩ => ?_
      refine thnF (pg.run _ s7 _ H7 x u _ (I7.pinned (rest I7 n7) (T.obj _ _ st7)) r7 (step x H7 y7)) fun _ s8 ⟨σ8, H8, I8, hw8, q8⟩ => ?_
      refine thnF (pt.run _ s8 σ8 H8 _ I8 q8) fun b s9 ⟨H9, I9, q9⟩ => ?_
      have turned : ∀ {s' : Shared} {H' : Hp}, Inv (X.blk { s2 with heap := s2.heap.push (emptySet X.w) } H3 scope ce fp) ([] ++ pinsAt fp s7.heap) σ8 H' s' → Nx H' → ∃ m, m < n ∧ ∃ i H', Inv (X.blk { s2 with heap := s2.heap.push (emptySet X.w) } H3 scope ce fp) [] (wipe σ (own.map (·.2))) H' s' ∧ tn i s'.heap ∧ (∀ b ∈ fp, H' b = none) ∧ W i m H' := by
        intro s' H' I' nx
        obtain ⟨m', hm, w'⟩ := hNx H' nx
        have pin : ∀ b ∈ fp, ∀ o, s7.heap.get? b = some o → s'.heap.get? b = some o ∧ H' b = none := fun b hb o e =>
          let z := I'.pin (b, o) (List.mem_append_right _ (List.mem_append_right _ (mem_pinsAt hb e))); ⟨z.1, z.2.1⟩
        refine ⟨m', hm, i + 1, H', (I'.unpinned (pins := [])).weak (by rw [← hw8, wipe_length]) (fun j v e => (wipe_some (by rw [hw8]; exact e)).1), T.keep _ _ _ st7 fun b hb o e => (pin b hb o e).1, fun b hb => ?_, w'⟩
        obtain ⟨o, e, _⟩ := T.obj _ _ st7 b hb
        exact (pin b hb o e).2
      cases b with
      | false => simp only [Bool.false_eq_true, if_false] at q9 ⊢; exact turned I9 q9
      | true =>
        simp only [if_true] at q9 ⊢
        refine thnF (pe.run _ s9 σ8 H9 _ I9 q9) fun z s10 ⟨yv, H10, I10, r10, k, S0, n0, ey, hD10, few, nx⟩ => ?_
        subst ey
        obtain ⟨t, rfl⟩ := r10
        exact putInt (X := X.blk _ H3 scope ce fp) I10 hD10 few fun s11 I11 => turned I11 nx
  exact codeAny_compStart_set round (T.self X.A 0 _ _ _ st4 round)

/-- the walk over a list that the block leaves as it is -/
theorem scI_list {w : World} {K : PySem.W.Frag} {a : Addr} {xs : List V} {g : TG} {tt : TT} {te : TE} {vs : List Nat} {σ : L2.St} {H1 : Hp} {D : Addr} {Qd : Hp → Prop}
    (Pv : Nat → Hp → Prop) (h0 : Pv 0 (upd H1 D (SetO w D (fun _ => false) 0))) (hl : ∀ i H, i ≤ xs.length → Pv i H → SqL K H a xs)
    (hs : ∀ i x H, xs[i]? = some x → Pv i H → g x (wipe σ vs) H fun σ2 H2 => wipe σ2 vs = wipe σ vs ∧ tt σ2 H2 fun b H3 => if b = true then te σ2 H3 fun y H4 =>
      ∃ (k : Int) (S : Int → Bool) (n : Nat), y = .int k ∧ H4 D = some (SetO w D S n) ∧ n + 1 < scanBound ∧ Pv (i + 1) (upd H4 D (SetO w D (fun j => S j || decide (j = k)) (if S k = true then n else n + 1))) else Pv (i + 1) H3)
    (hd : ∀ H, Pv xs.length H → Qd H) :
    ∃ W : Nat → Nat → Hp → Prop, (∃ m, W 0 m (upd H1 D (SetO w D (fun _ => false) 0))) ∧ ∀ i m H, W i m H → ((Itl K a).stop i H ∧ Qd H) ∨
      ((Itl K a).go i H ∧ ∃ Nx : Hp → Prop, (∀ H', Nx H' → ∃ m', m' < m ∧ W (i + 1) m' H') ∧ ∀ x H', (Itl K a).yld i H x H' → g x (wipe σ vs) H' fun σ2 H2 => wipe σ2 vs = wipe σ vs ∧
        tt σ2 H2 fun b H3 => if b = true then te σ2 H3 fun y H4 => ∃ (k : Int) (S : Int → Bool) (n : Nat), y = .int k ∧ H4 D = some (SetO w D S n) ∧ n + 1 < scanBound ∧
          Nx (upd H4 D (SetO w D (fun j => S j || decide (j = k)) (if S k = true then n else n + 1))) else Nx H3) := by
  refine ⟨fun i m H => m + i = xs.length ∧ Pv i H, ⟨xs.length, by simp, h0⟩, ?_⟩
  rintro i m H ⟨em, p⟩
  have here := hl i H (by omega) p
  rcases Nat.lt_or_ge i xs.length with lt | ge
  · refine .inr ⟨⟨xs, xs[i], here, by simp [lt]⟩, Pv (i + 1), fun H' p' => ⟨m - 1, by omega, by omega, p'⟩, fun x H' ⟨e, y⟩ => ?_⟩
    subst e
    exact hs i x _ (y xs here) p
  · have e : i = xs.length := by omega
    subst e
    exact .inl ⟨⟨xs, here, Nat.le_refl _⟩, hd H p⟩
end addi
end Rp

namespace Rp
open PySem PySem.Spec PyProof.Rows L2 PpSet
section
variable {P : Program} {w : World} {A : Around} {E : Value → Shared → Prop} {s : Shared}
set_option maxHeartbeats 6400000 in
theorem set_of_list {l : Addr} {items : Array Value} (ns : List Int) {Q : Value → Shared → Prop} (calm : A.handled = none) (hl : s.heap.IsList l items) (hi : IntsAre items.toList ns) (few : ns.length + 1 < scanBound)
    (go : ∀ (h' : Heap) (tk c : Nat), SetR w h' s.heap.objs.size (fun j => decide (j ∈ ns)) c → c ≤ ns.length → (∀ b o, s.heap.get? b = some o → h'.get? b = some o) → Q (.ref s.heap.objs.size) { s with heap := h', toks := tk }) :
    wpAny (model P w) A (call (.type "set") [.ref l]) Q E s := by
  have cnt : items.size = ns.length := by have q := IntsAre.length hi; rwa [Array.length_toList] at q
  obtain ⟨c, tl, hmro⟩ := F.called_set.mro
  have hmade := F.called_set.made
  have hsub := F.called_set.sub
  refine wpAny_call (codeAny_of_tree ?_)
  show wpAny _ _ (callAny (.type "set") _) _ _ _
  refine wpAny_pure ⟨Code.quiet_builtin _ (by decide +kernel), codeAny_builtin F.entry_type_call ?_⟩
  rw [Around.under_plain (weight_type_call_type "set" [.ref l] []) rfl]
  have h1 := F.called_set.notType
  have h2 := F.called_set.canCreate
  have hct := F.typeCall_set_1 (.ref l)
  repeat (any_goals (first | assumption | wp_step))
  refine codeAny_mono (code_set_led1 (.ref l) (E := E) (Q₁ := fun obj z => obj = .ref s.heap.objs.size ∧ z = { s with heap := s.heap.push (emptySet w) }) ⟨rfl, rfl⟩) fun r s₁ hr => ?_
  cases r with
  | error e => exact hr
  | ok fl =>
    cases fl with
    | ret obj =>
      obtain ⟨rfl, rfl⟩ := hr
      have atNew : (s.heap.push (emptySet w)).get? s.heap.objs.size = some (emptySet w) := Heap.get?_push_size _ rfl
      have hT : Shared.TypeIs { s with heap := s.heap.push (emptySet w) } (.ref s.heap.objs.size) "set" := ⟨_, atNew, rfl⟩
      have hli := F.called_set.init.lookup
      have hbi := F.called_set.init.bind (.ref s.heap.objs.size)
      repeat (any_goals (first | assumption | wp_step))
      refine codeAny_mono (codeAny_call_builtin (R := wants (fun r z => r = .none ∧ ∃ h' tk c, z = { s with heap := h', toks := tk } ∧ SetR w h' s.heap.objs.size (fun j => decide (j ∈ ns)) c ∧ c ≤ ns.length ∧
        (∀ b o, s.heap.get? b = some o → h'.get? b = some o)) E) F.called_set.init.plain F.entry_set_init (check_set_init_1 hT ?_)) fun r₂ s₂ hr₂ => ?_
      · obtain ⟨⟨ocls, odict, odata, oslots⟩, hol, hcl, nl, hdl⟩ := hl
        simp only at hcl hdl
        subst hcl hdl
        have hol' : (s.heap.push (emptySet w)).get? l = some { cls := .type "list", dict := odict, data := .seq items nl, slots := oslots } := Heap.get?_push_of_some _ hol
        have hsls := F.sub_list_set
        have hslf := F.sub_list_frozenset
        have hne : (Value.type "list" == Value.type "dict") = false := by decide
        have here : (s.heap.push (emptySet w)).IsList l items := ⟨_, hol', rfl, nl, rfl⟩
        unfold Builtin.«set.__init__» noKeywords Builtin.Frozenset.updateFrom
        generalize hPI : pyIter = PI
        wp_walk
        subst hPI
        refine wpAny_pyIter_list here (wpAny_bind (wpAny_runValue ?_))
        have below : l < s.heap.objs.size := Heap.lt_size hol
        have top : (s.heap.push (emptySet w)).objs.size = s.heap.objs.size + 1 := Heap.size_push ..
        have apart : l ≠ (s.heap.push (emptySet w)).objs.size := by rw [top]; exact Nat.ne_of_lt (Nat.lt_succ_of_lt below)
        have out : s.heap.objs.size ∉ [(s.heap.push (emptySet w)).objs.size, l] := by
          simp only [List.mem_cons, List.not_mem_nil, or_false, not_or, top]
          exact ⟨Nat.ne_of_lt (Nat.lt_succ_self _), Nat.ne_of_gt below⟩
        have each : ∀ (i : Nat) (v : Value), items[i]? = some v → ∃ k t, ns[i]? = some k ∧ v = .int k t := by
          intro i v hv
          have lt : i < ns.length := by rw [← cnt]; exact (Array.getElem?_eq_some_iff.mp hv).1
          obtain ⟨t, e⟩ := PyProof.Rows.IntsAre.int_at hi i v (by rw [Array.getElem?_toList]; exact hv)
          exact ⟨ns[i], t, List.getElem?_eq_getElem lt, by rw [e, List.getD_eq_getElem?_getD, List.getElem?_eq_getElem lt]; rfl⟩
        refine set_update_ints ((Walks.list (by simp [calm]) _ l apart items).toS) s.heap.objs.size out ns cnt few each (items.size - 0) 0 _ (by omega) (Nat.zero_le _)
          ⟨⟨_, Heap.get?_push_size _ rfl, rfl, rfl⟩, here.push _⟩ ⟨0, Nat.le_refl 0, setR_new_at (Heap.get?_push_of_some _ atNew)⟩ fun s' c' hm hc' hS' => ?_
        obtain ⟨h', g2, d', tk', os'⟩ := s'
        have eg : g2 = s.gens := hm.gens
        have ed : d' = s.drawn := hm.drawn
        have eo : os' = s.os := hm.os
        subst eg ed eo
        show wpAny _ _ _ _ _ _
        refine wpAny_pure ?_
        show wpAny _ _ (ret Value.none) _ _ _
        refine wpAny_pure ⟨rfl, h', tk', c', rfl, hS', by omega, fun b o e => ?_⟩
        have lt := Heap.lt_size e
        exact hm.heap b o (by simp only [List.mem_cons, List.not_mem_nil, or_false, not_or, top]; exact ⟨Nat.ne_of_lt lt, Nat.ne_of_lt (Nat.lt_succ_of_lt lt)⟩) (Heap.get?_push_of_some _ (Heap.get?_push_of_some _ e))
      · cases r₂ with
        | error e => exact hr₂
        | ok fl₂ =>
          cases fl₂ with
          | ret r =>
            obtain ⟨rfl, h', tk, c', rfl, hS', hc', hk'⟩ := hr₂
            repeat (any_goals (first | assumption | wp_step))
            exact go _ _ _ hS' hc' hk'
          | _ => exact hr₂.elim
    | _ => exact hr.elim
end
section
variable {X : Cx}
theorem intsOf : ∀ {ns : List Int} {us : List Value}, Vals (ns.map V.int) us → PyProof.Rows.IntsAre us ns
  | [], _, .nil => .nil
  | n :: ns, _, .cons ⟨k, e⟩ t => by subst e; exact .cons n k (intsOf t)
/-- set(xs), xs a list of ints -/
def rSetI (K : PySem.W.Frag) (w : World) : List V → Hp → VK → Prop := fun vs H Q => ∃ (a : Addr) (ns : List Int), vs = [V.ref a] ∧ SqL K H a (ns.map V.int) ∧ ns.length < 1000 ∧
  ∀ (p : Addr) (c : Nat), H p = none → c ≤ ns.length → Q (.ref p) (upd H p (SetO w p (fun j => decide (j ∈ ns)) c))
theorem cr_setI (hc : X.calm = true) : CallR X (.type "set") (rSetI X.K X.w) := by
  intro pins s σ H vs us Q I r h
  obtain ⟨a, ns, rfl, hs, hn, q⟩ := h
  rw [Vals.ref1 r]
  obtain ⟨its, rv, pl, hz⟩ := I.list hs
  refine set_of_list ns (I.ok.hd hc) pl.isList (by simpa using intsOf rv) (by unfold scanBound; omega) fun h' tk c R hc' k => ?_
  have hn : H s.heap.objs.size = none := I.hok.fresh (Nat.le_refl _)
  exact ⟨.ref _, upd H s.heap.objs.size (SetO X.w s.heap.objs.size (fun j => decide (j ∈ ns)) c), I.laid (t' := tk) k (Nat.le_refl _) (setO_new R), rfl, q _ c hn hc'⟩
end
end Rp

namespace Rp
open PySem L2
/-! ### TERMs -/
inductive Tm where
  | v (n : Int) | z | s (t : Tm) | f (l r : Tm)
  deriving DecidableEq
namespace Tm
def size : Tm → Nat
  | v _ => 1 | z => 1 | s t => t.size + 1 | f l r => l.size + r.size + 1
def deep : Tm → Nat
  | v _ => 0 | z => 0 | s t => t.deep + 1 | f l r => max l.deep r.deep + 1
def nums : Tm → List Int
  | v n => [n] | z => [] | s t => t.nums | f l r => l.nums ++ r.nums
/-- all parts, the whole first, the right-hand ones ahead of the left-hand ones -/
def rpost : Tm → List Tm
  | v n => [v n] | z => [z] | s t => s t :: t.rpost | f l r => f l r :: (r.rpost ++ l.rpost)
def kids : Tm → List Tm
  | v _ => [] | z => [] | s t => [t] | f l r => [l, r]
theorem size_pos : ∀ t : Tm, 1 ≤ t.size
  | v _ => Nat.le_refl _ | z => Nat.le_refl _ | s _ => by unfold size; omega | f _ _ => by unfold size; omega
theorem deep_lt : ∀ t : Tm, t.deep < t.size
  | v _ => Nat.zero_lt_one | z => Nat.zero_lt_one | s t => by have := deep_lt t; unfold deep size; omega
  | f l r => by have := deep_lt l; have := deep_lt r; unfold deep size; omega
theorem rpost_len : ∀ t : Tm, t.rpost.length = t.size
  | v _ => rfl | z => rfl | s t => by unfold rpost size; rw [List.length_cons, rpost_len t]
  | f l r => by unfold rpost size; rw [List.length_cons, List.length_append, rpost_len l, rpost_len r]; omega
/-- an int among the parts -/
theorem mem_rpost (n : Int) : ∀ t : Tm, v n ∈ t.rpost ↔ n ∈ t.nums
  | v m => by unfold rpost nums; simp
  | z => by unfold rpost nums; simp
  | s t => by unfold rpost nums; have := mem_rpost n t; simp [this]
  | f l r => by unfold rpost nums; have := mem_rpost n l; have := mem_rpost n r; simp [*]; exact Or.comm
theorem rpost_kids (t : Tm) : t.rpost = t :: (t.kids.reverse.flatMap rpost) := by
  cases t <;> simp [rpost, kids]
theorem kids_size (t : Tm) : (t.kids.map size).sum + 1 = t.size := by
  cases t <;> simp [kids, size] <;> omega
theorem nums_len : ∀ t : Tm, t.nums.length ≤ t.size
  | v _ => Nat.le_refl _ | z => Nat.zero_le _ | s t => by have := nums_len t; unfold nums size; omega
  | f l r => by have := nums_len l; have := nums_len r; unfold nums size; rw [List.length_append]; omega
/-- all signs, as law's leaves has them -/
def signs : Tm → List V
  | v n => [.int n] | z => [.str "0"] | s t => .str "s" :: t.signs | f l r => .str "f" :: (l.signs ++ r.signs)
theorem signs_len : ∀ t : Tm, t.signs.length = t.size
  | v _ => rfl | z => rfl | s t => by unfold signs size; rw [List.length_cons, signs_len t]
  | f l r => by unfold signs size; rw [List.length_cons, List.length_append, signs_len l, signs_len r]
end Tm
/-- the ints of a row of ints and texts -/
def rowInts : List V → List Int
  | [] => []
  | .int n :: r => n :: rowInts r
  | _ :: r => rowInts r
theorem rowInts_append : ∀ a b : List V, rowInts (a ++ b) = rowInts a ++ rowInts b
  | [], b => rfl
  | x :: r, b => by cases x <;> simp [rowInts, rowInts_append r b]
theorem signs_nums : ∀ t : Tm, rowInts t.signs = t.nums
  | .v _ => rfl | .z => rfl | .s t => by simp [Tm.signs, Tm.nums, rowInts, signs_nums t]
  | .f l r => by simp [Tm.signs, Tm.nums, rowInts, rowInts_append, signs_nums l, signs_nums r]
/-- a row of ints and texts -/
def Flat2 : V → Prop
  | .int _ => True
  | .str _ => True
  | _ => False
theorem signs_flat : ∀ t : Tm, ∀ x ∈ t.signs, Flat2 x
  | .v _, x, h => by simp [Tm.signs] at h; subst h; trivial
  | .z, x, h => by simp [Tm.signs] at h; subst h; trivial
  | .s t, x, h => by
    simp only [Tm.signs, List.mem_cons] at h
    rcases h with h | h
    · subst h; trivial
    · exact signs_flat t x h
  | .f l r, x, h => by
    simp only [Tm.signs, List.mem_cons, List.mem_append] at h
    rcases h with h | h | h
    · subst h; trivial
    · exact signs_flat l x h
    · exact signs_flat r x h
/-! ### two rising rows of the same ints are one -/
theorem rising_one : ∀ {a b : List Int}, a.Pairwise (· < ·) → b.Pairwise (· < ·) → (∀ k, k ∈ a ↔ k ∈ b) → a = b
  | [], [], _, _, _ => rfl
  | [], y :: b, _, _, h => by have := (h y).2 (by simp); simp at this
  | x :: a, [], _, _, h => by have := (h x).1 (by simp); simp at this
  | x :: a, y :: b, ha, hb, h => by
    rw [List.pairwise_cons] at ha hb
    have exy : x = y := by
      rcases List.mem_cons.mp ((h x).1 (by simp)) with e | e
      · exact e
      · rcases List.mem_cons.mp ((h y).2 (by simp)) with e' | e'
        · exact e'.symm
        · have := hb.1 x e
          have := ha.1 y e'
          omega
    subst exy
    rw [rising_one ha.2 hb.2 fun k => ?_]
    constructor
    · intro hk
      rcases List.mem_cons.mp ((h k).1 (List.mem_cons_of_mem _ hk)) with e | e
      · have := ha.1 k hk; omega
      · exact e
    · intro hk
      rcases List.mem_cons.mp ((h k).2 (List.mem_cons_of_mem _ hk)) with e | e
      · have := hb.1 k hk; omega
      · exact e
/-! ### heaps -/
/-- all but b stays -/
def But (b : Addr) (H H' : Hp) : Prop := ∀ c o, H c = some o → c ≠ b → H' c = some o
theorem But.refl (b : Addr) (H : Hp) : But b H H := fun _ _ h _ => h
theorem But.trans {b : Addr} {H H1 H2 : Hp} (x : But b H H1) (y : But b H1 H2) : But b H H2 := fun c o h n => y c o (x c o h n) n
theorem but_of {b : Addr} {H H' : Hp} (x : Same H H') : But b H H' := fun c o h _ => x c o h
theorem same_new {H : Hp} {p : Addr} (h : H p = none) (o : HO) : Same H (upd H p o) := fun b u q => by rw [upd_ne (ne_of_none q h)]; exact q
theorem but_upd {H : Hp} {b : Addr} (o : HO) : But b H (upd H b o) := fun c u h n => by rw [upd_ne n]; exact h
/-- the box of draws: j bounds how often it was drawn from -/
structure BoxAt (H : Hp) (b : Addr) (j : Nat) : Prop where
  ex : ∃ x y z : Int, H b = some (.lst [.int x, .int y, .int z]) ∧ 0 ≤ x ∧ 0 ≤ y ∧ y < 10000000000 ∧ 0 ≤ z ∧ z ≤ (j : Int)
theorem BoxAt.same {H H' : Hp} {b : Addr} {j : Nat} (B : BoxAt H b j) (e : Same H H') : BoxAt H' b j := by
  obtain ⟨x, y, z, h, r⟩ := B.ex
  exact ⟨x, y, z, e _ _ h, r⟩
theorem BoxAt.more {H : Hp} {b : Addr} {j k : Nat} (B : BoxAt H b j) (h : j ≤ k) : BoxAt H b k := by
  obtain ⟨x, y, z, e, h1, h2, h3, h4, h5⟩ := B.ex
  exact ⟨x, y, z, e, h1, h2, h3, h4, by omega⟩
theorem BoxAt.some {H : Hp} {b : Addr} {j : Nat} (B : BoxAt H b j) : ∃ xs, H b = some (.lst xs) := by
  obtain ⟨x, y, z, e, _⟩ := B.ex
  exact ⟨_, e⟩
/-- a TERM stands as the value v -/
inductive TmAt (H : Hp) : V → Tm → Prop where
  | v (n : Int) : TmAt H (.int n) (.v n)
  | z {a : Addr} (h : H a = some (.tup [.str "0"])) : TmAt H (.ref a) .z
  | s {a : Addr} {x : V} {t : Tm} (h : H a = some (.tup [.str "s", x])) (q : TmAt H x t) : TmAt H (.ref a) (.s t)
  | f {a : Addr} {x y : V} {l r : Tm} (h : H a = some (.tup [.str "f", x, y])) (q : TmAt H x l) (q' : TmAt H y r) : TmAt H (.ref a) (.f l r)
theorem TmAt.mono {H H' : Hp} (e : ∀ a xs, H a = some (.tup xs) → H' a = some (.tup xs)) {v : V} {t : Tm} (h : TmAt H v t) : TmAt H' v t := by
  induction h with
  | v n => exact .v n
  | z h => exact .z (e _ _ h)
  | s h _ ih => exact .s (e _ _ h) ih
  | f h _ _ ih ih' => exact .f (e _ _ h) ih ih'
theorem TmAt.same {H H' : Hp} (e : Same H H') {v : V} {t : Tm} (h : TmAt H v t) : TmAt H' v t := h.mono fun a xs q => e a _ q
theorem TmAt.but {H H' : Hp} {b : Addr} {ys : List V} (e : But b H H') (hb : H b = some (.lst ys)) {v : V} {t : Tm} (h : TmAt H v t) : TmAt H' v t :=
  h.mono fun a xs q => e a _ q (ne_of q hb (by intro z; cases z))
/-! ### what is alike, kind by kind (to a depth) -/
def Plain : V → Prop
  | .non => True
  | .bl _ => True
  | .int _ => True
  | .str _ => True
  | _ => False
def Alike (H : Hp) : Nat → V → V → Prop
  | 0, x, y => Plain x ∧ x = y
  | n + 1, x, y => (Plain x ∧ x = y) ∨ ∃ a b xs ys, x = .ref a ∧ y = .ref b ∧ ((H a = some (.lst xs) ∧ H b = some (.lst ys)) ∨ (H a = some (.tup xs) ∧ H b = some (.tup ys))) ∧
      xs.length = ys.length ∧ xs.length ≤ 1000000 ∧ ∀ (i : Nat) (u v : V), xs[i]? = some u → ys[i]? = some v → Alike H n u v
theorem Alike.mono {H H' : Hp} (e : Same H H') : ∀ (n : Nat) {x y : V}, Alike H n x y → Alike H' n x y
  | 0, _, _, h => by unfold Alike at h ⊢; exact h
  | n + 1, x, y, h => by
    unfold Alike at h ⊢
    rcases h with h | ⟨a, b, xs, ys, h1, h2, h3, h4, h5, h6⟩
    · exact .inl h
    · exact .inr ⟨a, b, xs, ys, h1, h2, h3.imp (fun q => ⟨e _ _ q.1, e _ _ q.2⟩) (fun q => ⟨e _ _ q.1, e _ _ q.2⟩), h4, h5, fun i u v p q => Alike.mono e n (h6 i u v p q)⟩
theorem alike_ints {H : Hp} {n : Nat} {a b : Addr} {ns : List Int} (ha : H a = some (.lst (ns.map V.int))) (hb : H b = some (.lst (ns.map V.int))) (hl : ns.length ≤ 1000000) : Alike H (n + 1) (.ref a) (.ref b) := by
  unfold Alike
  refine .inr ⟨a, b, _, _, rfl, rfl, .inl ⟨ha, hb⟩, rfl, by rw [List.length_map]; exact hl, fun i u v h1 h2 => ?_⟩
  have e : u = v := Option.some.inj (h1.symm.trans h2)
  subst e
  rw [List.getElem?_map] at h1
  cases q : ns[i]? with
  | none => rw [q] at h1; cases h1
  | some k =>
    rw [q] at h1
    cases h1
    cases n with
    | zero => unfold Alike; exact ⟨trivial, rfl⟩
    | succ n => unfold Alike; exact .inl ⟨trivial, rfl⟩
end Rp

/-! Defs whose body asks for the repr of lists and tuples: their promise is kept where no repr is at work (the around's guards are told to be none), and so where the law itself is called. -/
namespace Rp
open PySem PySem.Spec PyProof.Rows L2
structure GnOk (P : Program) (w : World) (K : PySem.W.Frag) (mg : Str → Option Value) (base : Heap) (k : Nat) (f : Addr) (fd : FuncData) (ps : List Str) (sp : Sp) : Prop where
  len : ∀ vs H Q E, sp vs H Q E → vs.length = ps.length
  run : ∀ (A : Around) (outer : List Env) (s : Shared) (H : Hp) (args : Args) (us : List Value) (vs : List V) (Q : VK) (E : XK), A.guards = some [] → Room k A → Env0 P w K mg base A outer s H → BindsTo s fd args (ps.zip us) → Vals vs us → sp vs H Q E →
    codeAny (model P w) A (.call (.ref f) args) (CR CX0 outer P w H s Q E) s
section
variable {P : Program} {w : World} {K : PySem.W.Frag} {mg : Str → Option Value} {base : Heap}
/-- a def by its body, the guards told -/
theorem gok {x qual : Str} {st : Stmt} {f : Addr} {fd : FuncData} {N ps : List Str} {k : Nat} {sp : Sp} (F : Fun K x qual st f fd) (S : FnScope N ps (defScope st)) (len : ∀ vs H Q E, sp vs H Q E → vs.length = ps.length)
    (walk : ∀ (cdv : Value) (A : Around) (outer : List Env) (s : Shared) (H : Hp) (vs : List V) (Q : VK) (E : XK), A.guards = some [] → Room k (A.deeper (envOfC qual (defScope st) s.heap.objs.size f cdv)) → sp vs H Q E →
      ∃ t, PSs (cxOf CX0 P w K mg base N qual (defScope st) f cdv A outer s H E).nox (defBody st) t ∧ t { nx := fun _ H' => Q .non H', rt := Q } (start N vs) H) : GnOk P w K mg base (k + 1) f fd ps sp := by
  obtain ⟨oc, od, kV, doc, pm, an, cdv, ct, osl, rfl, lk, hcd⟩ := F.ex
  refine ⟨len, fun A outer s H args us vs Q E hg hr e0 hb r hsp => ?_⟩
  have K0 : K.In s.heap := e0.mod.kin.keeps fun b o e => (e0.bs b o e).1
  have L0 : s.heap.NoLimit := e0.mod.nolimit.keeps fun b o e => (e0.bs b o e).1
  have each : ∀ y ∈ ps.zip us, (defScope st).names.lookup y.1 = some .local ∨ ((defScope st).names.lookup y.1 = some .cell ∧ ((cellsFrom (s.heap.objs.size + 1) (defScope st).names []).lookup y.1).isSome = true) := by
    rintro ⟨n, v⟩ hy
    exact (S.par n (List.of_mem_zip hy).1).imp id fun q => ⟨q, PySem.W.cellsFrom_some _ _ _ (.inl q)⟩
  refine codeAny_call_function hr.depth (K0 _ _ lk) rfl S.co S.gen rfl (PySem.W.codeRec_of K0 hcd) (hb _ _ _ _ (wpAny_newFunctionEnv_cells S.kind each fun env he s1 z => ?_))
  subst he
  refine ⟨L0.keeps z.toInCall.keep, codeAny_func ?_⟩
  obtain ⟨t, ht, hq⟩ := walk cdv A outer s H vs Q E hg (hr.deeper _) hsp
  have I : L2.Inv (cxOf CX0 P w K mg base N qual (defScope st) f cdv A outer s H E) [] (start N vs) H s1 := inv_start S hr.hd e0 (len _ _ _ _ hsp) r z
  refine wpAny_mono (ht.nox.run [] s1 (start N vs) H _ I hq) (fun fl s' hs => ?_) fun e s' hs => hs
  rcases fl with _ | _ | _ | u
  · obtain ⟨_, H', J, q⟩ := hs
    exact ⟨V.non, H', J.os, J.bare, J.base, J.hok, rfl, q⟩
  · exact hs.choose_spec.choose_spec.2.elim
  · exact hs.choose_spec.choose_spec.2.elim
  · obtain ⟨v, _, H', J, rv, q⟩ := hs
    exact ⟨v, H', J.os, J.bare, J.base, J.hok, rv, q⟩
end
section
variable {X : Cx} {k : Nat} {f : Addr} {fd : FuncData} {ps : List Str} {sp : Sp} {E : XK} {x : Str} {p pos : Pos} {e : Expr} {es : List Expr} {t : TA}
theorem pe_callG (F : GnOk X.prog X.w X.K X.mg X.base k f fd ps sp) (hgd : X.A.guards = some []) (hr : Room k X.A) (hg : Gl X x) (hm : X.mg x = some (.ref f)) (hk : PySem.W.keepIn X.K (.ref f) = true) (hb : Binds X.K fd ps []) (ha : PA X (e :: es) t)
    (hdb : (x == ("__debug__" : Str)) = false := by decide) (he : starEach (e :: es) X.env = (false, eval e X.env) :: starEach es X.env := by rfl) (hpl : (backTo pos (starEach es X.env)).any (·.1) = false := by rfl) :
    PE X (.Call (.Name x p) (e :: es) [] pos) (tCall sp [] E0 t) := by
  refine ⟨fun pins s σ H Q I h => wpAny_Call_Name_kw (ld_glob I hg hm ?_ hdb)⟩
  refine PySem.W.callWith_K (h₀ := X.base) I.ok.mod.kin hk (thn (ha.run pos pins s σ H _ I h) fun us s1 ⟨vs, H1, I1, r, q⟩ => ⟨I1.kIn, ?_⟩) he hpl
  have q : sp vs H1 Q E0 := by
    have z : sp (vs ++ []) H1 Q E0 := q
    rwa [List.append_nil] at z
  have hl : us.length = ps.length := r.length.symm.trans (F.len _ _ _ _ q)
  have hb' := hb s1 us I1.kIn (by rw [List.append_nil]; exact hl)
  rw [List.append_nil] at hb'
  refine wpAny_call (codeAny_mono (F.run X.A X.stack s1 H1 ⟨us, []⟩ us vs Q E0 hgd hr I1.env0 hb' r q) fun r' s' hq => ?_)
  rcases r' with e' | fl
  · exact hq.elim
  · rcases fl with _ | _ | _ | u
    · exact hq.elim
    · exact hq.elim
    · exact hq.elim
    · exact I1.after hq
/-- repr(v), v data at any depth -/
def rReprD (K : PySem.W.Frag) : List V → Hp → VK → Prop := fun vs H Q => ∃ (v : V) (d : PyData), vs = [v] ∧ Dp K H v d ∧ d.showable = true ∧ d.hasDict = false ∧ d.depth ≤ 64 ∧ d.shown.length ≤ sizeLine ∧ Q (.str d.shown) H
theorem cr_reprD (hgd : X.A.guards = some []) (hu : X.A.units + 66 < cLine) : CallR X (.builtin "repr") (rReprD X.K) := by
  intro pins s σ H vs us Q I r h
  obtain ⟨v, d, rfl, hd, sh, nd, dp, sz, q⟩ := h
  obtain ⟨u, rfl, ru⟩ := vals1 r
  obtain ⟨as, rd⟩ := Dp.reads I d v u hd ru
  cases hd with
  | non => cases ru; exact PySem.P.repr_of_none ⟨.str "None", H, I.tok _, ⟨_, rfl⟩, by simpa [PyData.shown] using q⟩
  | bl b => cases ru; exact PySem.P.repr_of_bool ⟨.str (if b then "True" else "False"), H, I.tok _, ⟨_, rfl⟩, by simpa [PyData.shown] using q⟩
  | int i =>
    obtain ⟨t, rfl⟩ := ru
    exact PySem.P.repr_of_int (by simpa [PyData.showable] using sh) ⟨.str (toString i), H, I.tok _, ⟨_, rfl⟩, by simpa [PyData.shown] using q⟩
  | str x =>
    obtain ⟨t, rfl⟩ := ru
    exact PySem.P.repr_of_str ⟨.str (reprText x), H, I.tok _, ⟨_, rfl⟩, by simpa [PyData.shown] using q⟩ (by simpa [PyData.shown] using sz)
  | lst a b =>
    cases ru
    exact PySem.repr_of_reads' rd sh (fun e => by rw [nd] at e; cases e) hgd (by omega) (fun _ _ e => e) (fun h' u tk k => ⟨.str _, H, I.kept (t' := tk) k, ⟨u, rfl⟩, q⟩) sz
  | tup a b =>
    cases ru
    exact PySem.repr_of_reads' rd sh (fun e => by rw [nd] at e; cases e) hgd (by omega) (fun _ _ e => e) (fun h' u tk k => ⟨.str _, H, I.kept (t' := tk) k, ⟨u, rfl⟩, q⟩) sz
end
/-- the law's own call, its promise with the guards told -/
theorem law_callG {P : Program} {w : World} {K : PySem.W.Frag} {mg mb : Str → Option Value} {k : Nat} {fa a : Addr} {fd : FuncData} {x : Str} {sp : Sp} {s₁ : Shared} {vs : List Value} {ns : List Int}
    (KX : K.In s₁.heap) (hns : s₁.heap.Ns mainGlobals mg) (hb : s₁.heap.Ns builtinsNs mb) (hbb : ∀ x : Str, x ≠ "__name__" → mb x = bootBuiltins x) (hlim : s₁.heap.NoLimit) (hg : s₁.gens = #[])
    (ha : s₁.heap.get? a = some { cls := .type "list", data := .seq vs.toArray }) (hi : IntsAre vs ns) (hl : ns.length ≤ sizeLine) (hr : Room k callerA)
    (F : ∀ base : Heap, K.In base → base.Ns mainGlobals mg → GnOk P w K mg base k fa fd [x] sp) (bind : ∀ (s : Shared) (u : Value), BindsTo s fd ⟨[u], []⟩ [(x, u)])
    (ask : ∀ H : Hp, Only H → SqL K H a (ns.map V.int) → sp [.ref a] H (fun v _ => v = .bl true) E0) :
    codeAny (model P w) callerA (.call (.ref fa) ⟨[.ref a], []⟩) (fun r s' => r = .ok (.ret (.bool true)) ∧ OldK s₁.heap s'.heap ∧ s'.os = s₁.os ∧ AllBare s'.gens) s₁ := by
  have rv := vals_ints hi
  have lenV := hi.length
  have from_ : ∀ H : Hp, Only H → SqL K H a (ns.map V.int) → HOk P w H s₁.heap → (∀ b, H b ≠ none → b = a ∧ K.lookup a = none) →
      codeAny (model P w) callerA (.call (.ref fa) ⟨[.ref a], []⟩) (fun r s' => r = .ok (.ret (.bool true)) ∧ OldK s₁.heap s'.heap ∧ s'.os = s₁.os ∧ AllBare s'.gens) s₁ := by
    intro H only hS hok hA
    have free : ∀ {b : Addr} {o : Obj}, s₁.heap.get? b = some o → (b = a → False) → H b = none := fun {b o} _ n => by
      cases q : H b with
      | none => rfl
      | some u => exact (n (hA b (by rw [q]; simp)).1).elim
    have low : ∀ {b : Addr} {o : Obj}, s₁.heap.get? b = some o → H b = none → (hidT s₁.heap H).get? b = some o := fun e n => hidT_get e n
    have names : ∀ {b : Addr} {m : Str → Option Value}, s₁.heap.Ns b m → (hidT s₁.heap H).Ns b m := fun {b m} ⟨o, es, ep, e, d, r⟩ =>
      ⟨o, es, ep, low e (free e fun z => by subst z; rw [ha] at e; cases e; cases d), d, r⟩
    have hK : K.In (hidT s₁.heap H) := fun b o e => low (KX b o e) (by
      cases q : H b with
      | none => rfl
      | some u =>
        obtain ⟨z, zk⟩ := hA b (by rw [q]; simp)
        subst z
        rw [zk] at e; cases e)
    have M : Mod K mg (hidT s₁.heap H) := ⟨hK, names hns, ⟨mb, names hb, hbb⟩, let ⟨mc, h1, h2⟩ := hlim; ⟨mc, names h1, h2⟩⟩
    have e0 : Env0 P w K mg (hidT s₁.heap H) callerA [] s₁ H := ⟨rfl, M, fun b o e => of_hidT e, Nat.le_of_eq (hidT_size _ _), trivial, fun b z => absurd (show b ∈ ([] : List Addr) from z) (by simp), hok, .of_eq hg⟩
    refine codeAny_mono ((F _ hK (names hns)).run callerA [] s₁ H ⟨[.ref a], []⟩ [.ref a] [.ref a] _ _ rfl hr e0 (bind s₁ (.ref a)) (.cons rfl .nil) (ask H only hS)) fun r s' h => ?_
    rcases r with e | fl
    · exact h.elim
    · rcases fl with _ | _ | _ | u
      · exact h.elim
      · exact h.elim
      · exact h.elim
      · obtain ⟨v, H', os, bare, un, hok', r', q⟩ := h
        obtain rfl : v = .bl true := q
        obtain rfl : u = Value.bool true := r'
        refine ⟨rfl, OldK.of_keep fun b o e => ?_, os, bare⟩
        cases q : H b with
        | none => exact un.keep b o e q (by intro z; exact absurd (show b ∈ ([] : List Addr) from z) (by simp)) (by simp)
        | some u =>
          rcases only b with z | ⟨ob, xs, z⟩
          · rw [q] at z; cases z
          · obtain ⟨e1, _⟩ := hok b _ z
            obtain ⟨e2, _⟩ := hok' b _ (un.frzs b ob _ z)
            rw [e] at e1; cases e1
            exact e2
  cases hk : K.lookup a with
  | some o =>
    have e := KX a o hk
    rw [ha] at e
    cases e
    exact from_ (fun _ => none) (fun _ => .inl rfl) (.inr ⟨_, vs.toArray, _, hk, rfl, rfl, rfl, by rw [List.size_toArray, lenV]; exact hl, by simpa using rv⟩) (fun b u z => nomatch (show (none : Option HO) = some u from z)) fun b z => absurd rfl z
  | none =>
    have at_ : ∀ b, (fun b => if b = a then some (HO.frz { cls := .type "list", data := .seq vs.toArray } (.lst (ns.map V.int))) else none) b ≠ none → b = a := fun b z => by
      by_cases hb : b = a
      · exact hb
      · exact absurd (if_neg hb) z
    refine from_ _ (fun b => ?_) (.inl (.inr ⟨_, if_pos rfl⟩)) (fun b u z => ?_) fun b z => ⟨at_ b z, hk⟩
    · by_cases hb : b = a
      · exact .inr ⟨_, _, if_pos hb⟩
      · exact .inl (if_neg hb)
    · have hb := at_ b (fun e => by have y := z.symm.trans e; cases y)
      subst hb
      have z' := (if_pos rfl).symm.trans z
      cases z'
      exact ⟨ha, by rw [List.length_map]; exact hl, vs, _, rv, ha⟩
theorem walk_ofG {l : PySem.W.OpenLaw} {n k : Nat} {q : Program} {loose : List Str} {XP : (Str → Option Value) → Heap → Prop} {YP : World → Heap → Prop} {d : DefRec} {K : Params → PySem.W.Frag} {sp : PySem.W.Frag → Sp} {x : Str}
    (hn : l.most = some n) (hn2 : n ≤ sizeLine) (hdf : d.params.defaults = []) (hr : Room k callerA) (hY : ∀ (w : World) (h : Heap), YP w h → (K w.params).In h)
    (F : ∀ (w : World) (mg : Str → Option Value) (fa : Addr) (h : Heap), (K w.params).In h → h.Ns mainGlobals mg → mg d.name = some (.ref fa) →
      ∃ fd : FuncData, (∀ (s : Shared) (u : Value), BindsTo s fd ⟨[u], []⟩ [(x, u)]) ∧ ∀ base : Heap, (K w.params).In base → base.Ns mainGlobals mg → GnOk l.prog w (K w.params) mg base k fa fd [x] (sp (K w.params)))
    (ask : ∀ (K : PySem.W.Frag) (H : Hp) (a : Addr) (ns : List Int), ns.length ≤ n → Only H → SqL K H a (ns.map V.int) → sp K [.ref a] H (fun v _ => v = .bl true) E0) :
    PySem.W.WalkO q loose XP YP l.row.toRowW d [] (fun f vs => PySem.call f vs) := by
  refine Att.attach_call hn hdf fun w s₀ s₁ mg mb fa o pm cd doc a vs ns G Y ho hd hcd hmg hobj hints hlen hg => ?_
  obtain ⟨fd, hb, hF⟩ := F w mg fa _ (hY w _ Y) G.T.g hmg
  exact law_callG (hY w _ Y) G.T.g G.T.b G.T.builtins G.T.nolimit hg hobj hints (Nat.le_trans hlen hn2) hr hF hb fun H hO hS => ask _ H a ns hlen hO hS
end Rp

namespace Rp
open PySem L2
def top (i : Nat) : Stmt := PySem.Challenge.pw_ringproofs_k11_rules_as_texts.main.body.getD i (.Pass ⟨0, 0, 0, 0⟩)
abbrev sNumber : Stmt := top 7
abbrev sVariable : Stmt := top 8
abbrev sShape : Stmt := top 9
abbrev sTerm : Stmt := top 10
abbrev sParts : Stmt := top 11
abbrev sInside : Stmt := top 12
abbrev sFold : Stmt := top 13
abbrev sIsName : Stmt := top 18
abbrev sIsAtom : Stmt := top 19
abbrev sHeadVars : Stmt := top 20
abbrev sIsHead : Stmt := top 21
abbrev sIsBody : Stmt := top 22
abbrev sIsRule : Stmt := top 23
abbrev sTextOf : Stmt := top 26
abbrev sTermText : Stmt := top 27
abbrev sNumberOf : Stmt := top 28
abbrev sFromSigns : Stmt := top 29
abbrev sTermOrNone : Stmt := top 30
abbrev sAtomText : Stmt := top 32
abbrev sAtomOr : Stmt := top 33
abbrev sAtomIn : Stmt := top 34
abbrev sAtomsText : Stmt := top 35
abbrev sAtomsOr : Stmt := top 36
abbrev sRuleText : Stmt := top 37
abbrev sRuleOr : Stmt := top 38
abbrev sRuleIn : Stmt := top 39
abbrev sBox : Stmt := top 41
abbrev sTake : Stmt := top 42
abbrev sPick : Stmt := top 43
abbrev sFolded : Stmt := top 44
abbrev sSame : Stmt := top 45
abbrev sWords : Stmt := top 46
abbrev sVariableL : Stmt := top 47
abbrev sTermL : Stmt := top 48
abbrev sCounts : Stmt := top 49
abbrev sHead : Stmt := top 50
abbrev sRule : Stmt := top 51
abbrev sText : Stmt := top 52
abbrev sLawAT : Stmt := top 53
abbrev sLawRT : Stmt := top 54
abbrev sLaw : Stmt := top 55
end Rp

namespace Rp
open PySem L2
/-! ### promises -/
def spBox (K : PySem.W.Frag) : Sp := fun vs H Q _ => ∃ (a : Addr) (ns : List Int) (k : Int), vs = [.ref a, .int k] ∧ SqL K H a (ns.map V.int) ∧ ns.length ≤ 63 ∧ 0 ≤ k ∧ k ≤ 63 ∧
  ∀ (b : Addr) (H' : Hp), H b = none → BoxAt H' b 0 → Same H H' → Q (.ref b) H'
def spTake : Sp := fun vs H Q _ => ∃ (b : Addr) (c : Int) (j : Nat), vs = [.ref b, .int c] ∧ BoxAt H b j ∧ j ≤ 1000000 ∧ 1 ≤ c ∧ c ≤ 1000000 ∧
  ∀ (r : Int) (H' : Hp), 0 ≤ r → r < c → BoxAt H' b (j + 1) → But b H H' → Q (.int r) H'
def spPick : Sp := fun vs H Q _ => ∃ (b p : Addr) (xs : List V) (j : Nat), vs = [.ref b, .ref p] ∧ BoxAt H b j ∧ j ≤ 1000000 ∧ H p = some (.lst xs) ∧ p ≠ b ∧ 1 ≤ xs.length ∧ xs.length ≤ 1000000 ∧
  ∀ (v : V) (H' : Hp), v ∈ xs → BoxAt H' b (j + 1) → But b H H' → Q v H'
section
variable {P : Program} {w : World} {K : PySem.W.Frag} {mg : Str → Option Value} {base : Heap}
theorem fmod_pos {a c : Int} (h : 0 < c) : 0 ≤ a.fmod c ∧ a.fmod c < c := by
  rw [Int.fmod_eq_emod_of_nonneg a (Int.le_of_lt h)]
  exact ⟨Int.emod_nonneg a (by omega), Int.emod_lt_of_pos a h⟩
theorem fdiv_pos {a c : Int} (h : 0 < c) (ha : 0 ≤ a) : 0 ≤ a.fdiv c := by
  rw [Int.fdiv_eq_ediv_of_nonneg a (Int.le_of_lt h)]
  exact Int.ediv_nonneg ha (Int.le_of_lt h)
theorem scBox : FnScope ["_law_script", "_law_k", "_law_cell"] ["_law_script", "_law_k"] (defScope sBox) := ⟨rfl, rfl, rfl, by decide +kernel, rfl, by decide +kernel, by decide +kernel⟩
theorem ok_box {f : Addr} {fd : FuncData} (F : Fun K "_law_box" "_law_box" sBox f fd) (mLen : mg "len" = none) (mAbs : mg "abs" = none) (mInt : mg "int" = none) :
    FnOk P w K mg base CX0 1 f fd ["_law_script", "_law_k"] (spBox K) := by
  refine F.ok scBox (fun vs H Q E h => ?_) (fun cdv A outer s H vs Q E hr h => ?_)
  · obtain ⟨a, ns, k, rfl, _⟩ := h
    rfl
  obtain ⟨a, ns, k, rfl, hS, hl, h0, h1, q⟩ := h
  refine ⟨_, pss_cons (ps_set (i := 2) scBox.nd rfl (Or.inl rfl) pe_int)
    (pss_cons (ps_if (pt_cmpR op_lt (pv 1) (pe_callB call_len_seq (by rfl) mLen PySem.boot_len (pa_cons (pv 0) pa_nil)) (nomark _))
      (pss_one (ps_set (i := 2) scBox.nd rfl (Or.inl rfl) (pe_ix ix_list (pv 0) (pv 1) (fun _ _ => rfl)))) pss_nil)
    (pss_one (ps_ret (pe_lst (pa_cons
      (pe_op op_mul (pe_callB call_abs (by rfl) mAbs (by decide +kernel) (pa_cons (pv 2) pa_nil))
        (pe_callTy call_int1 (by rfl) mInt (by decide +kernel) (pa_cons (pe_cmpR op_ge (pe_callB call_abs (by rfl) mAbs (by decide +kernel) (pa_cons (pv 2) pa_nil)) (pe_op op_pow pe_int pe_int) (nomark _)) pa_nil)))
      (pa_cons (pe_op op_add (pe_op op_add (pe_op op_modN (pv 2) pe_int) (pe_op op_mul pe_int (pv 1))) pe_int) (pa_cons pe_int pa_nil))))))), ?_⟩
  refine ⟨_, rfl, _, rfl, a, _, rfl, .inl hS, _, _, rfl, rfl, _, rfl, ?_⟩
  have two : ∀ (b : Bool), -(2 ^ 64) < (if b = true then (1 : Int) else 0) ∧ (if b = true then (1 : Int) else 0) < 2 ^ 64 ∧ 0 ≤ (if b = true then (1 : Int) else 0) := by decide
  have pos : ∀ c : Int, 0 ≤ if c < 0 then -c else c := fun c => by split <;> omega
  have m := fun c : Int => fmod_pos (a := c) (c := 2147483629) (by decide)
  refine ite2 (fun c => ?_) (fun c => ?_)
  · have hk : k.toNat < ns.length := by
      have z : k < (((ns.map V.int).length : Nat) : Int) := of_decide_eq_true c
      rw [List.length_map] at z
      omega
    have it : atI (ns.map V.int) k = some (.int ns[k.toNat]) := at_of (j := k.toNat) (by omega) (by rw [List.getElem?_map, List.getElem?_eq_getElem hk]; rfl)
    refine ⟨_, rfl, _, rfl, a, _, _, _, rfl, rfl, hS, it, ?_⟩
    refine ⟨_, rfl, _, rfl, _, rfl, _, rfl, _, _, rfl, rfl, ⟨by decide, by decide, by decide⟩, _, _, rfl, rfl, .inr ⟨_, rfl, ?_⟩⟩
    refine ⟨_, _, rfl, rfl, .inr ⟨(two _).1, (two _).2.1⟩, _, rfl, _, _, rfl, rfl, (fun h => absurd h (by decide)), _, rfl, _, _, rfl, rfl, .inl ⟨by decide, by decide⟩, _, _, rfl, rfl, _, _, rfl, rfl, (by show 3 ≤ sizeLine; decide), fun b hb => ?_⟩
    have mm := m ns[k.toNat]
    exact q b _ hb ⟨_, _, _, upd_same, Int.mul_nonneg (pos _) (two _).2.2, by omega, by omega, by decide, by decide⟩ (same_new hb _)
  · refine ⟨_, rfl, _, rfl, _, rfl, _, rfl, _, _, rfl, rfl, ⟨by decide, by decide, by decide⟩, _, _, rfl, rfl, .inr ⟨_, rfl, ?_⟩⟩
    refine ⟨_, _, rfl, rfl, .inr ⟨(two _).1, (two _).2.1⟩, _, rfl, _, _, rfl, rfl, (fun h => absurd h (by decide)), _, rfl, _, _, rfl, rfl, .inl ⟨by decide, by decide⟩, _, _, rfl, rfl, _, _, rfl, rfl, (by show 3 ≤ sizeLine; decide), fun b hb => ?_⟩
    have mm := m 0
    exact q b _ hb ⟨_, _, _, upd_same, Int.mul_nonneg (pos _) (two _).2.2, by omega, by omega, by decide, by decide⟩ (same_new hb _)
theorem scTake : FnScope ["_law_box_here", "_law_top", "_law_found", "_law_once"] ["_law_box_here", "_law_top"] (defScope sTake) := ⟨rfl, rfl, rfl, by decide +kernel, rfl, by decide +kernel, by decide +kernel⟩
theorem ok_take {f : Addr} {fd : FuncData} (F : Fun K "_law_take" "_law_take" sTake f fd) : FnOk P w K mg base CX0 1 f fd ["_law_box_here", "_law_top"] spTake := by
  refine F.ok scTake (fun vs H Q E h => ?_) (fun cdv A outer s H vs Q E hr h => ?_)
  · obtain ⟨b, c, j, rfl, _⟩ := h
    rfl
  obtain ⟨b, c, j, rfl, B, hj, h1, h2, q⟩ := h
  obtain ⟨x, y, z, hb, x0, y0, y1, z0, z1⟩ := id B
  have s0 : SqL K H b [.int x, .int y, .int z] := .inl (.inl hb)
  have a0 : ∀ u v t : Int, atI [V.int u, .int v, .int t] 0 = some (.int u) := fun u v t => at_of (j := 0) rfl rfl
  have a1 : ∀ u v t : Int, atI [V.int u, .int v, .int t] 1 = some (.int v) := fun u v t => at_of (j := 1) rfl rfl
  have a2 : ∀ u v t : Int, atI [V.int u, .int v, .int t] 2 = some (.int t) := fun u v t => at_of (j := 2) rfl rfl
  refine ⟨_, pss_cons (ps_if (pt_cmpR op_gt (pe_ix ix_list (pv 0) pe_int (fun _ _ => rfl)) pe_int (nomark _))
      (pss_cons (ps_set (i := 2) scTake.nd rfl (Or.inl rfl) (pe_op op_modN (pe_ix ix_list (pv 0) pe_int (fun _ _ => rfl)) (pv 1)))
      (pss_cons (ps_asg (pe_op op_fdivN (pe_ix ix_list (pv 0) pe_int (fun _ _ => rfl)) (pv 1)) (pg_sub (pv 0) pe_int set_list))
      (pss_one (ps_ret (pv 2))))) pss_nil)
    (pss_cons (ps_asg (pe_op op_add (pe_ix ix_list (pv 0) pe_int (fun _ _ => rfl)) pe_int) (pg_sub (pv 0) pe_int set_list))
    (pss_cons (ps_set (i := 3) scTake.nd rfl (Or.inl rfl) (pe_op op_modN (pe_op op_pow (pe_op op_add (pe_ix ix_list (pv 0) pe_int (fun _ _ => rfl)) (pe_op op_mul pe_int (pe_ix ix_list (pv 0) pe_int (fun _ _ => rfl)))) pe_int) pe_int))
    (pss_one (ps_ret (pe_op op_modN (pe_op op_fdivN (pe_op op_modN (pe_op op_add (pe_op op_mul (pv 3) (pe_op op_add (pe_op op_modN (pv 3) pe_int) pe_int)) (pe_op op_mul (pe_ix ix_list (pv 0) pe_int (fun _ _ => rfl)) pe_int)) pe_int) pe_int) (pv 1)))))), ?_⟩
  refine ⟨_, rfl, b, _, _, _, rfl, rfl, s0, a0 _ _ _, _, _, rfl, rfl, _, rfl, ?_⟩
  refine ite2 (fun d => ?_) (fun d => ?_)
  · refine ⟨_, rfl, b, _, _, _, rfl, rfl, s0, a0 _ _ _, _, rfl, _, _, rfl, rfl, (by omega), ?_⟩
    refine ⟨_, rfl, b, _, _, _, rfl, rfl, s0, a0 _ _ _, _, rfl, _, _, rfl, rfl, ⟨by omega, by omega⟩, ?_⟩
    refine ⟨_, rfl, b, _, _, 0, rfl, rfl, hb, rfl, ?_⟩
    have m := fmod_pos (a := x) (c := c) (by omega)
    exact ⟨_, rfl, q _ _ m.1 m.2 ⟨_, _, _, upd_same, fdiv_pos (by omega) x0, y0, y1, z0, by omega⟩ (but_upd _)⟩
  · refine ⟨_, rfl, b, _, _, _, rfl, rfl, s0, a2 _ _ _, _, _, rfl, rfl, ?_⟩
    refine ⟨_, rfl, b, _, _, 2, rfl, rfl, hb, rfl, ?_⟩
    have hb' : (upd H b (.lst [.int x, .int y, .int (z + 1)])) b = some (.lst [.int x, .int y, .int (z + 1)]) := upd_same
    have s1 : SqL K (upd H b (.lst [.int x, .int y, .int (z + 1)])) b [.int x, .int y, .int (z + 1)] := .inl (.inl hb')
    refine ⟨_, rfl, b, _, _, _, rfl, rfl, s1, a1 _ _ _, _, rfl, b, _, _, _, rfl, rfl, s1, a2 _ _ _, _, _, rfl, rfl, .inl ⟨by decide, by decide⟩, _, _, rfl, rfl, _, _, rfl, rfl, ⟨by decide, by decide, by omega⟩, _, _, rfl, rfl, (fun h => absurd h (by decide)), ?_⟩
    generalize (y + 39373 * (z + 1)) ^ Int.toNat 5 = g
    have m := fmod_pos (a := g) (c := 2147483647) (by decide)
    refine ⟨_, rfl, _, rfl, _, _, rfl, rfl, (fun h => absurd h (by decide)), _, _, rfl, rfl, _, _, rfl, rfl, .inl ⟨by omega, by omega⟩, _, rfl, b, _, _, _, rfl, rfl, s1, a2 _ _ _, _, _, rfl, rfl, .inl ⟨by omega, by omega⟩, _, _, rfl, rfl, _, _, rfl, rfl, (fun h => absurd h (by decide)), _, _, rfl, rfl, ⟨by decide, by decide⟩, _, rfl, _, _, rfl, rfl, (by omega), ?_⟩
    generalize Int.fdiv _ _ = e
    have m2 := fmod_pos (a := e) (c := c) (by omega)
    exact q _ _ m2.1 m2.2 ⟨_, _, _, upd_same, x0, y0, y1, by omega, by omega⟩ (but_upd _)
theorem scPick : FnScope ["_law_box_here", "_law_things"] ["_law_box_here", "_law_things"] (defScope sPick) := ⟨rfl, rfl, rfl, by decide +kernel, rfl, by decide +kernel, by decide +kernel⟩
theorem ok_pick {f fT : Addr} {fd fdT : FuncData} (F : Fun K "_law_pick" "_law_pick" sPick f fd) (FT : Fun K "_law_take" "_law_take" sTake fT fdT) (bT : Binds K fdT ["_law_box_here", "_law_top"] []) (mT : mg "_law_take" = some (.ref fT)) (mLen : mg "len" = none) :
    FnOk P w K mg base CX0 2 f fd ["_law_box_here", "_law_things"] spPick := by
  have GT : FnOk P w K mg base CX0 1 fT fdT ["_law_box_here", "_law_top"] spTake := ok_take FT
  refine F.ok scPick (fun vs H Q E h => ?_) (fun cdv A outer s H vs Q E hr h => ?_)
  · obtain ⟨b, p, xs, j, rfl, _⟩ := h
    rfl
  obtain ⟨b, p, xs, j, rfl, B, hj, hp, ne, l1, l2, q⟩ := h
  refine ⟨_, pss_one (ps_ret (pe_ix ix_list (pv 1) (pe_call GT hr rfl mT FT.kp bT .nil pass0 (pa_cons (pv 0) (pa_cons (pe_callB call_len_seq (by rfl) mLen PySem.boot_len (pa_cons (pv 1) pa_nil)) pa_nil))) (fun _ _ => rfl))), ?_⟩
  refine ⟨_, rfl, _, rfl, _, rfl, p, _, rfl, .inl (.inl (.inl hp)), b, _, j, rfl, B, hj, by omega, by omega, fun r H' r0 r1 B' o => ?_⟩
  have hr' : r.toNat < xs.length := by omega
  refine ⟨p, _, _, _, rfl, rfl, .inl (.inl (o _ _ hp ne)), at_of (j := r.toNat) (v := xs[r.toNat]) (by omega) (List.getElem?_eq_getElem hr'), ?_⟩
  exact q _ _ (List.getElem_mem hr') B' o
end
end Rp

namespace Rp
open PySem L2
section
variable {P : Program} {w : World} {K : PySem.W.Frag} {mg : Str → Option Value} {base : Heap}
theorem none_left {k : Nat} {f : Addr} {fd : FuncData} {ps : List Str} {sp : Sp} (no : ∀ vs H Q E, ¬ sp vs H Q E) : FnOk P w K mg base CX0 k f fd ps sp :=
  ⟨fun vs H Q E h => absurd h (no vs H Q E), fun A outer s H args us vs Q E _ _ _ _ h => absurd h (no vs H Q E)⟩
theorem v1_ne {x y : Int} (c : ¬ decide (V.int x = V.int y) = true) : x ≠ y := fun e => c (by rw [e]; simp)
theorem v1_eq {x y : Int} (c : decide (V.int x = V.int y) = true) : x = y := V.int.inj (of_decide_eq_true c)
theorem big1000 : (1000 : Nat) ≤ sizeLine := by decide
end
end Rp

namespace Rp
open PySem L2
/-- the value of a TERM is an int or a tuple that stands -/
theorem TmAt.ty {K : PySem.W.Frag} {H : Hp} {v : V} {t : Tm} (h : TmAt H v t) : (∃ n, v = .int n ∧ t = .v n) ∨ (∃ a xs, v = .ref a ∧ H a = some (.tup xs) ∧ TyX K H v (.type "tuple") ∧ (∀ n, t ≠ .v n)) := by
  cases h with
  | v n => exact .inl ⟨n, rfl, rfl⟩
  | z h => exact .inr ⟨_, _, rfl, h, .base (.tup h), fun n e => by cases e⟩
  | s h _ => exact .inr ⟨_, _, rfl, h, .base (.tup h), fun n e => by cases e⟩
  | f h _ _ => exact .inr ⟨_, _, rfl, h, .base (.tup h), fun n e => by cases e⟩
def signHead : Tm → Str
  | .v _ => "" | .z => "0" | .s _ => "s" | .f _ _ => "f"
/-- a TERM that is no variable: its tuple, its parts -/
theorem TmAt.tupled {H : Hp} {v : V} {t : Tm} (h : TmAt H v t) (no : ∀ n, t ≠ .v n) : ∃ a ks, v = .ref a ∧ H a = some (.tup (.str (signHead t) :: ks)) ∧ ks.length = t.kids.length ∧ ∀ (i : Nat) (x : V) (k : Tm), ks[i]? = some x → t.kids[i]? = some k → TmAt H x k := by
  cases h with
  | v n => exact absurd rfl (no n)
  | z h => exact ⟨_, [], rfl, h, rfl, fun i x k h => by simp at h⟩
  | @s a x t h q =>
    refine ⟨_, [x], rfl, h, rfl, fun i y k h1 h2 => ?_⟩
    cases i with
    | zero => simp [Tm.kids] at h1 h2; subst h1 h2; exact q
    | succ i => simp at h1
  | @f a x y l r h q q' =>
    refine ⟨_, [x, y], rfl, h, rfl, fun i u k h1 h2 => ?_⟩
    match i with
    | 0 => simp [Tm.kids] at h1 h2; subst h1 h2; exact q
    | 1 => simp [Tm.kids] at h1 h2; subst h1 h2; exact q'
    | i + 2 => simp at h1
theorem signs_kids : ∀ {t : Tm}, (∀ n, t ≠ .v n) → t.signs = .str (signHead t) :: t.kids.flatMap Tm.signs
  | .v n, h => absurd rfl (h n)
  | .z, _ => rfl
  | .s t, _ => by simp [Tm.signs, Tm.kids, signHead]
  | .f l r, _ => by simp [Tm.signs, Tm.kids, signHead]
theorem kid_deep {t k : Tm} (h : k ∈ t.kids) : k.deep < t.deep := by
  cases t with
  | v n => simp [Tm.kids] at h
  | z => simp [Tm.kids] at h
  | s t => simp [Tm.kids] at h; subst h; exact Nat.lt_succ_self _
  | f l r =>
    simp [Tm.kids] at h
    rcases h with h | h <;> subst h <;> (simp only [Tm.deep]; omega)
theorem kid_size {t k : Tm} (h : k ∈ t.kids) : k.size < t.size := by
  cases t with
  | v n => simp [Tm.kids] at h
  | z => simp [Tm.kids] at h
  | s t => simp [Tm.kids] at h; subst h; exact Nat.lt_succ_self _
  | f l r =>
    simp [Tm.kids] at h
    rcases h with h | h <;> subst h <;> (simp only [Tm.size]; omega)
theorem take_flat {t : Tm} (i : Nat) : ((t.kids.take i).flatMap Tm.signs).length ≤ t.size := by
  cases t with
  | v n => simp [Tm.kids]
  | z => simp [Tm.kids]
  | s t =>
    match i with
    | 0 => simp
    | i + 1 => simp [Tm.kids, Tm.signs_len, Tm.size]
  | f l r =>
    match i with
    | 0 => simp
    | 1 => simp [Tm.kids, Tm.signs_len, Tm.size]; try omega
    | i + 2 => simp [Tm.kids, Tm.signs_len, Tm.size]; try omega
theorem cut_tail (x : V) (ks : List V) : cutV (x :: ks) (some 1) none = ks := by
  have e : HT.sIx (x :: ks).length 0 (some 1) = 1 := by
    have := HT.sIx_nat (x :: ks).length 0 1
    rw [List.length_cons] at this ⊢
    rw [show (some 1 : Option Int) = some ((1 : Nat) : Int) from rfl, this]
    omega
  unfold cutV
  rw [e, HT.sIx_none, List.drop_one, List.tail_cons, List.take_of_length_le (by simp)]
theorem cut_part (x : V) (ks : List V) : ¬ (HT.sIx (x :: ks).length 0 (some 1) = 0 ∧ HT.sIx (x :: ks).length (x :: ks).length none = (x :: ks).length) := by
  have := HT.sIx_nat (x :: ks).length 0 1
  rw [List.length_cons] at this ⊢
  rw [show (some 1 : Option Int) = some ((1 : Nat) : Int) from rfl, this]
  omega
section
variable {P : Program} {w : World} {K : PySem.W.Frag} {mg : Str → Option Value} {base : Heap}
theorem kit_ii : PySem.W.kitOne K (.type "int") (.type "int") = some true := kit_ty (by decide +kernel)
theorem kit_ti : PySem.W.kitOne K (.type "tuple") (.type "int") = some false := kit_ty (by decide +kernel)
theorem kit_si : PySem.W.kitOne K (.type "str") (.type "int") = some false := kit_ty (by decide +kernel)
end
end Rp

namespace Rp
open PySem PySem.Spec PyProof.Rows L2
/-- list.extend by any tuple object -/
theorem extend_by (l : Addr) (xs : Array Value) (n : Nat) (b : Addr) (od : Option Addr) (ys : Array Value) (m : Nat) (sl : Array (Option Value)) (short : ¬(!xs.isEmpty && Builtin.List.listTooLong (xs.size + ys.size)) = true) (h1 : xs.size ≤ sizeLine) (h2 : xs.size + ys.size ≤ sizeLine + 1) :
    Meets (Builtin.«list.extend» ⟨[.ref l, .ref b], []⟩) (fun _ R s => s.heap.get? l = some { cls := .type "list", data := .seq xs n } ∧ s.heap.get? b = some ⟨.type "tuple", od, .seq ys m, sl⟩ ∧
      R (.ok (.ret Value.none)) { s with heap := s.heap.update l (Obj.mapSeq fun x => x ++ ys) }) :=
  .of_wp fun prog w A R s ⟨hl, hb, h⟩ => by
    obtain ⟨hp, g, d, tk, os⟩ := s
    have g1 := sub_list_list
    have g2 := sub_tuple_list
    have g3 := sub_tuple_tuple
    have g4 := sub_list_tuple
    have both : (xs ++ ys).size ≤ sizeLine + 1 := by rw [Array.size_append]; exact h2
    wp_walk using (wpAny_updateSeq hl rfl (hz := h1) (_hz' := both)), wpAny_loadPart' hl, wpAny_loadPart' hb
    exact ⟨_, rfl, h⟩
section
variable {X : Cx}
/-- xs.extend(t), t a tuple -/
def rExtT (K : PySem.W.Frag) : V → List V → Hp → VK → Prop := fun x vs H Q => ∃ (l b : Addr) (xs zs : List V), x = .ref l ∧ vs = [.ref b] ∧ H l = some (.lst xs) ∧ SqT K H b zs ∧ xs.length + zs.length ≤ sizeLine ∧ Q .non (upd H l (.lst (xs ++ zs)))
theorem mt_extendT : MtM X "list.extend" (rExtT X.K) := by
  intro pins s σ H x vs v us Q I rx rv h
  obtain ⟨l, b, xs, zs, rfl, rfl, hH, hB, few, q⟩ := h
  cases rx
  obtain ⟨u, rfl, ru⟩ := rv.one
  cases ru
  obtain ⟨z, its, n, r, hl, e⟩ := I.lstM hH
  obtain ⟨its2, r2, ⟨⟨c2, d2, dat2, sl2⟩, e2, hc2, n2, hd2⟩, hz2⟩ := I.tuple hB
  simp only at hc2 hd2
  subst hc2 hd2
  have l1 := r.length
  have l2 := r2.length
  have room : its.toArray.size + its2.toArray.size ≤ sizeLine := by rw [List.size_toArray, List.size_toArray]; omega
  have short : ¬ (!its.toArray.isEmpty && Builtin.List.listTooLong (its.toArray.size + its2.toArray.size)) = true := by
    rw [notLongL room, Bool.and_false]; exact Bool.false_ne_true
  refine call_meets PySem.F.slot_list_extend ⟨_, e, rfl⟩ PySem.F.entry_list_extend (PySem.F.args_list_extend_2 _ _) (extend_by l its.toArray n b d2 its2.toArray n2 sl2 short (by rw [List.size_toArray]; omega) (by omega)) ⟨e, e2, ?_⟩
  refine ⟨.non, _, I.lset (its' := its ++ its2) (t' := s.toks) hH e (by simp) (r.append r2) ?_, rfl, q⟩
  rw [List.length_append]; omega
end
end Rp

namespace Rp
open PySem L2
/-- values and TERMs side by side -/
def AllAt (H : Hp) : List V → List Tm → Prop
  | [], [] => True
  | x :: xs, t :: ts => TmAt H x t ∧ AllAt H xs ts
  | _, _ => False
theorem AllAt.len {H : Hp} : ∀ {xs : List V} {ts : List Tm}, AllAt H xs ts → xs.length = ts.length
  | [], [], _ => rfl
  | x :: xs, t :: ts, h => congrArg (· + 1) (AllAt.len h.2)
theorem AllAt.append {H : Hp} : ∀ {xs ys : List V} {ts us : List Tm}, AllAt H xs ts → AllAt H ys us → AllAt H (xs ++ ys) (ts ++ us)
  | [], _, [], _, _, h => h
  | x :: xs, _, t :: ts, _, h, h' => ⟨h.1, AllAt.append h.2 h'⟩
theorem AllAt.parted {H : Hp} : ∀ {xs ys : List V} {ts : List Tm}, AllAt H (xs ++ ys) ts → ∃ t1 t2, ts = t1 ++ t2 ∧ AllAt H xs t1 ∧ AllAt H ys t2
  | [], _, ts, h => ⟨[], ts, rfl, trivial, h⟩
  | x :: xs, ys, t :: ts, h => by
    obtain ⟨t1, t2, e, h1, h2⟩ := AllAt.parted (xs := xs) h.2
    exact ⟨t :: t1, t2, by rw [e]; rfl, ⟨h.1, h1⟩, h2⟩
theorem AllAt.mono {H H' : Hp} (e : ∀ a xs, H a = some (.tup xs) → H' a = some (.tup xs)) : ∀ {xs : List V} {ts : List Tm}, AllAt H xs ts → AllAt H' xs ts
  | [], [], _ => trivial
  | x :: xs, t :: ts, h => ⟨h.1.mono e, AllAt.mono e h.2⟩
theorem AllAt.back {H : Hp} : ∀ {xs : List V} {ts : List Tm}, AllAt H xs ts → AllAt H xs.reverse ts.reverse
  | [], [], _ => trivial
  | x :: xs, t :: ts, h => by
    rw [List.reverse_cons, List.reverse_cons]
    exact (AllAt.back h.2).append ⟨h.1, trivial⟩
theorem AllAt.get {H : Hp} : ∀ {xs : List V} {ts : List Tm} {i : Nat} {x : V}, AllAt H xs ts → xs[i]? = some x → ∃ t, ts[i]? = some t ∧ TmAt H x t
  | x :: xs, t :: ts, 0, y, h, e => by simp at e; subst e; exact ⟨t, rfl, h.1⟩
  | x :: xs, t :: ts, i + 1, y, h, e => by simpa using AllAt.get h.2 (by simpa using e)
theorem AllAt.of {H : Hp} : ∀ {xs : List V} {ts : List Tm}, xs.length = ts.length → (∀ (i : Nat) (x : V) (k : Tm), xs[i]? = some x → ts[i]? = some k → TmAt H x k) → AllAt H xs ts
  | [], [], _, _ => trivial
  | x :: xs, t :: ts, l, h => ⟨h 0 x t rfl rfl, AllAt.of (by simpa using l) fun i y k a b => h (i + 1) y k (by simpa using a) (by simpa using b)⟩
def spParts : Sp := fun vs H Q _ => ∃ (v : V) (t : Tm), vs = [v] ∧ TmAt H v t ∧ ∀ (p : Addr) (ks : List V) (H' : Hp), H p = none → H' p = some (.tup ks) → AllAt H' ks t.kids → Same H H' → Q (.ref p) H'
def spInside : Sp := fun vs H Q _ => ∃ (v : V) (t : Tm), vs = [v] ∧ TmAt H v t ∧ t.size ≤ 1000 ∧ ∀ (p : Addr) (xs : List V) (H' : Hp), H p = none → H' p = some (.lst xs) → AllAt H' xs t.rpost.reverse → Same H H' → Q (.ref p) H'
def spSize : Sp := fun vs H Q _ => ∃ (v : V) (t : Tm), vs = [v] ∧ TmAt H v t ∧ t.size ≤ 1000 ∧ ∀ H', Same H H' → Q (.int (t.size : Nat)) H'
def spVars : Sp := fun vs H Q _ => ∃ (v : V) (t : Tm), vs = [v] ∧ TmAt H v t ∧ t.size ≤ 60 ∧ ∀ (p : Addr) (ns : List Int) (H' : Hp), H p = none → H' p = some (.lst (ns.map V.int)) → ns.Pairwise (· < ·) → (∀ k, k ∈ ns ↔ k ∈ t.nums) → Same H H' → Q (.ref p) H'
section
variable {P : Program} {w : World} {K : PySem.W.Frag} {mg : Str → Option Value} {base : Heap}
theorem scParts : FnScope ["term"] ["term"] (defScope sParts) := ⟨rfl, rfl, rfl, by decide +kernel, rfl, by decide +kernel, by decide +kernel⟩
theorem ok_parts {f : Addr} {fd : FuncData} (F : Fun K "_parts" "_parts" sParts f fd) (mIsi : mg "isinstance" = none) (mInt : mg "int" = none) : FnOk P w K mg base CX0 1 f fd ["term"] spParts := by
  refine F.ok scParts (fun vs H Q E h => ?_) (fun cdv A outer s H vs Q E hr h => ?_)
  · obtain ⟨v, t, rfl, _⟩ := h
    rfl
  obtain ⟨v, t, rfl, T, q⟩ := h
  refine ⟨_, pss_one (ps_ret (pe_ifExp (pt_val (pe_callB call_isi (by rfl) mIsi (by decide +kernel) (pa_cons (pv 0) (pa_cons (pe_bltn (v := .ty "int") (by rfl) mInt (by decide +kernel) rfl) pa_nil)))) (pe_tup pa_nil) (pe_slice sl_tup (pv 0) (po_some pe_int) po_none))), ?_⟩
  rcases T.ty (K := K) with ⟨m, rfl, rfl⟩ | ⟨a, xs, rfl, ha, ty, no⟩
  · refine ⟨_, rfl, _, _, _, _, true, rfl, .ty "int", .base (.int m), kit_ii, true, rfl, iteT ?_⟩
    exact ⟨(by show 0 ≤ sizeLine; decide), fun p hp => q p [] _ hp upd_same trivial (same_new hp _)⟩
  · obtain ⟨a', ks, e, ha', hk, hks⟩ := T.tupled no
    cases e
    refine ⟨_, rfl, _, _, _, _, false, rfl, .ty "int", ty, kit_ti, false, rfl, iteF ?_⟩
    refine ⟨_, rfl, 1, rfl, a, _, rfl, .inl (.inl ha'), cut_part _ _, fun p hp => ?_⟩
    rw [cut_tail]
    have s1 := same_new hp (.tup ks)
    exact q p ks _ hp upd_same (AllAt.of hk fun i x k a b => (hks i x k a b).same s1) s1
theorem scInside : FnScope ["term", "found", "todo", "part"] ["term"] (defScope sInside) := ⟨rfl, rfl, rfl, by decide +kernel, rfl, by decide +kernel, by decide +kernel⟩
/-- how many parts are still to come -/
def leftOf (n : Nat) (σ : List (Option V)) (H : Hp) : Nat := match σ with
  | _ :: some (V.ref p) :: _ => (match H p with
    | some (HO.lst xs) => n - xs.length
    | _ => 0)
  | _ => 0
theorem leftOf_is {n : Nat} {v : Option V} {p : Addr} {r : List (Option V)} {H : Hp} {xs : List V} (h : H p = some (.lst xs)) : leftOf n (v :: some (.ref p) :: r) H = n - xs.length := by
  unfold leftOf
  simp [h]
theorem ok_inside {f fP : Addr} {fd fdP : FuncData} (F : Fun K "inside_out" "inside_out" sInside f fd) (FP : Fun K "_parts" "_parts" sParts fP fdP) (bP : Binds K fdP ["term"] []) (mP : mg "_parts" = some (.ref fP)) (mIsi : mg "isinstance" = none) (mInt : mg "int" = none) :
    FnOk P w K mg base CX0 2 f fd ["term"] spInside := by
  have GP : FnOk P w K mg base CX0 1 fP fdP ["term"] spParts := ok_parts FP mIsi mInt
  refine F.ok scInside (fun vs H Q E h => ?_) (fun cdv A outer s H vs Q E hr h => ?_)
  · obtain ⟨v, t, rfl, _⟩ := h
    rfl
  obtain ⟨v, t, rfl, T, hz, q⟩ := h
  refine ⟨_, pss_cons (ps_set (i := 1) scInside.nd rfl (Or.inl rfl) (pe_lst pa_nil))
    (pss_cons (ps_set (i := 2) scInside.nd rfl (Or.inl rfl) (pe_lst (pa_cons (pv 0) pa_nil)))
    (pss_cons (ps_while PassesOwn.never (pt_truth (pv 2) (by intro _; rfl))
      (pss_cons (ps_set (i := 3) scInside.nd rfl (Or.inl rfl) (pe_bm0 PySem.F.plainAttrs_list PySem.F.slot_list_pop PySem.F.type_list_pop mt_pop (pv 2)))
      (pss_cons (ps_expr (pe_bm PySem.F.plainAttrs_list PySem.F.slot_list_append PySem.F.type_list_append mt_append (pv 1) (pa_cons (pv 3) pa_nil)))
      (pss_one (ps_expr (pe_bm PySem.F.plainAttrs_list PySem.F.slot_list_extend PySem.F.type_list_extend mt_extendT (pv 2) (pa_cons (pe_call GP hr rfl mP FP.kp bP .nil pass0 (pa_cons (pv 3) pa_nil)) pa_nil)))))))
    (pss_one (ps_ret (pe_revL (pv 1)))))), ?_⟩
  refine ⟨(by show 0 ≤ sizeLine; decide), fun p hp => ?_⟩
  refine ⟨_, rfl, (by show 1 ≤ sizeLine; decide), fun d hd => ?_⟩
  have s1 := same_new hp (.lst [])
  have s2 := same_new hd (.lst [v])
  have s12 : Same H _ := s1.trans s2
  have pd : p ≠ d := ne_of_none upd_same hd
  dsimp only [gName, tSeq]
  refine while_by (fun σ H2 => ∃ (fxs txs : List V) (fs ts : List Tm) (x : Option V), σ = [some v, some (.ref p), some (.ref d), x] ∧ H2 p = some (.lst fxs) ∧ H2 d = some (.lst txs) ∧ AllAt H2 fxs fs ∧ AllAt H2 txs ts ∧ fs ++ ts.reverse.flatMap Tm.rpost = t.rpost ∧ Same H H2)
    (leftOf t.size) ⟨[], [v], [], [t], none, rfl, s2 _ _ upd_same, upd_same, trivial, ⟨T.same s12, trivial⟩, by simp, s12⟩ ?_ (fun σ H Q Q' m ⟨v, hv, k, hk, q⟩ => ⟨v, hv, k, hk, m _ _ q⟩)
  rintro σ H2 ⟨fxs, txs, fs, ts, x, rfl, h1, h2, A1, A2, eq, sH⟩
  refine ⟨_, rfl, !txs.isEmpty, .inl ⟨txs, .inl (.inl h2), rfl⟩, ?_⟩
  have tot := congrArg List.length eq
  rw [List.length_append, Tm.rpost_len, ← A1.len] at tot
  rcases List.eq_nil_or_concat txs with e | ⟨M, y, e⟩
  · subst e
    refine iteF ?_
    have e2 : ts = [] := by have := A2.len; cases ts with | nil => rfl | cons => simp at this
    subst e2
    have e3 : fs = t.rpost := by simpa using eq
    subst e3
    refine ⟨_, rfl, p, _, rfl, .inl (.inl h1), fun r hr2 => ?_⟩
    have s3 := same_new hr2 (.lst fxs.reverse)
    refine q r _ _ (sH.free hr2) upd_same (A1.back.mono fun a xs z => s3 _ _ z) (sH.trans s3)
  · rw [List.concat_eq_append] at e
    subst e
    have ne : (!(M ++ [y]).isEmpty) = true := by simp
    rw [ne]
    refine iteT ?_
    obtain ⟨L, k', e2, AM, Ay⟩ := A2.parted
    subst e2
    obtain ⟨k, rfl, Tk⟩ : ∃ k, k' = [k] ∧ TmAt H2 y k := by
      match k', Ay with
      | [k], Ay => exact ⟨k, rfl, Ay.1⟩
    have ek : fs ++ (k :: (k.kids.reverse.flatMap Tm.rpost ++ L.reverse.flatMap Tm.rpost)) = t.rpost := by
      rw [← eq]
      simp [Tm.rpost_kids k]
    have room : fxs.length < t.size := by
      have := congrArg List.length ek
      rw [List.length_append, Tm.rpost_len, ← A1.len, List.length_cons] at this
      omega
    have big := big1000
    -- part = todo.pop()
    refine ⟨_, rfl, .inl ⟨rfl, _, .inl (.inl h2)⟩, d, _, y, rfl, rfl, h2, by simp, ?_⟩
    rw [List.dropLast_concat]
    have dp : d ≠ p := fun z => pd z.symm
    have t3 : ∀ a xs, H2 a = some (.tup xs) → upd H2 d (.lst M) a = some (.tup xs) := fun a xs z => by rw [upd_ne (ne_of z h2 (by intro z; cases z))]; exact z
    -- found.append(part)
    refine ⟨_, rfl, .inl ⟨rfl, fxs, .inl (.inl (by rw [upd_ne pd]; exact h1))⟩, _, rfl, p, fxs, y, rfl, rfl, (by rw [upd_ne pd]; exact h1), by omega, ?_⟩
    have h1' : (upd (upd H2 d (.lst M)) p (.lst (fxs ++ [y]))) p = some (.lst (fxs ++ [y])) := upd_same
    have h2' : (upd (upd H2 d (.lst M)) p (.lst (fxs ++ [y]))) d = some (.lst M) := by rw [upd_ne dp]; exact upd_same
    have t4 : ∀ a xs, H2 a = some (.tup xs) → (upd (upd H2 d (.lst M)) p (.lst (fxs ++ [y]))) a = some (.tup xs) := fun a xs z => by
      rw [upd_ne (ne_of z h1 (by intro z; cases z))]; exact t3 a xs z
    have pn : H p = none := hp
    have dn : H d = none := s1.free hd
    have sH4 : Same H (upd (upd H2 d (.lst M)) p (.lst (fxs ++ [y]))) := fun b o z => by
      rw [upd_ne (ne_of_none z pn), upd_ne (ne_of_none z dn)]; exact sH b o z
    -- todo.extend(_parts(part))
    refine ⟨_, rfl, .inl ⟨rfl, M, .inl (.inl h2')⟩, _, rfl, y, k, rfl, Tk.mono t4, fun g ks H5 hg h5 A5 s5 => ?_⟩
    have kl := A5.len
    have lim : M.length + ks.length ≤ sizeLine := by
      have a1 := congrArg List.length ek
      have a2 : k.kids.length ≤ 2 := by cases k <;> simp [Tm.kids]
      have a3 : L.length ≤ (L.reverse.flatMap Tm.rpost).length := by
        have : ∀ l : List Tm, l.length ≤ (l.flatMap Tm.rpost).length := by
          intro l
          induction l with
          | nil => simp
          | cons z l ih => rw [List.flatMap_cons, List.length_append, Tm.rpost_len, List.length_cons]; have := Tm.size_pos z; omega
        have := this L.reverse
        rwa [List.length_reverse] at this
      have a4 := AM.len
      rw [List.length_append, List.length_cons, List.length_append, Tm.rpost_len] at a1
      have a5 : (1000 : Nat) + 1000 ≤ sizeLine := by decide
      omega
    refine ⟨d, g, M, ks, rfl, rfl, s5 _ _ h2', .inl (.inl h5), lim, ?_⟩
    have h1'' := s5 _ _ h1'
    have t6 : ∀ a xs, H5 a = some (.tup xs) → upd H5 d (.lst (M ++ ks)) a = some (.tup xs) := fun a xs z => by rw [upd_ne (ne_of z (s5 _ _ h2') (by intro z; cases z))]; exact z
    have t7 : ∀ a xs, H2 a = some (.tup xs) → upd H5 d (.lst (M ++ ks)) a = some (.tup xs) := fun a xs z => t6 a xs (s5 _ _ (t4 a xs z))
    have h1d : (upd H5 d (.lst (M ++ ks))) p = some (.lst (fxs ++ [y])) := by rw [upd_ne pd]; exact h1''
    refine ⟨⟨fxs ++ [y], M ++ ks, fs ++ [k], L ++ k.kids, some y, rfl, h1d, upd_same, (A1.mono t7).append ⟨Tk.mono t7, trivial⟩, (AM.mono t7).append (A5.mono t6), ?_, ?_⟩, ?_⟩
    · rw [← ek]; simp
    · intro b o z
      rw [upd_ne (ne_of_none z dn)]
      exact s5 _ _ (sH4 b o z)
    · show leftOf t.size (some v :: some (.ref p) :: _) _ < leftOf t.size (some v :: some (.ref p) :: _) H2
      rw [leftOf_is h1d, leftOf_is h1, List.length_append, List.length_singleton]
      omega
end
end Rp

namespace Rp
open PySem L2 RZ
/-- [.. for a, b in zip(xs, ys)], both lists or both tuples, as long -/
theorem lc_pairs {J : It} {xs ys : List V} {g : TG} {tt : TT} {te : TE} {vs : List Nat} {σ : L2.St} {H1 : Hp} {D : Addr} {Qd : Hp → Prop} (same : xs.length = ys.length) (Pv : Nat → Hp → Prop)
    (stops : ∀ H, Pv xs.length H → J.stop xs.length H) (goes : ∀ i H, i < xs.length → Pv i H → J.go i H)
    (gives : ∀ i H v H', Pv i H → J.yld i H v H' → ∃ T x y, v = .ref T ∧ xs[i]? = some x ∧ ys[i]? = some y ∧ H T = none ∧ H' = upd H T (.tup [x, y]))
    (h0 : Pv 0 (upd H1 D (.lst [])))
    (hs : ∀ (i : Nat) (x y : V) (T : Addr) (H : Hp), xs[i]? = some x → ys[i]? = some y → Pv i H → H T = none → g (.ref T) (wipe σ vs) (upd H T (.tup [x, y])) fun σ2 H2 => wipe σ2 vs = wipe σ vs ∧
      tt σ2 H2 fun b H3 => if b = true then te σ2 H3 fun y H4 => ∃ acc, H4 D = some (.lst acc) ∧ acc.length < sizeLine ∧ Pv (i + 1) (upd H4 D (.lst (acc ++ [y]))) else Pv (i + 1) H3)
    (hd : ∀ H, Pv xs.length H → Qd H) :
    ∃ W : Nat → Nat → Hp → Prop, (∃ m, W 0 m (upd H1 D (.lst []))) ∧ ∀ i m H, W i m H → (J.stop i H ∧ Qd H) ∨
      (J.go i H ∧ ∃ Nx : Hp → Prop, (∀ H', Nx H' → ∃ m', m' < m ∧ W (i + 1) m' H') ∧ ∀ x H', J.yld i H x H' → g x (wipe σ vs) H' fun σ2 H2 => wipe σ2 vs = wipe σ vs ∧
        tt σ2 H2 fun b H3 => if b = true then te σ2 H3 fun y H4 => ∃ acc, H4 D = some (.lst acc) ∧ acc.length < sizeLine ∧ Nx (upd H4 D (.lst (acc ++ [y]))) else Nx H3) := by
  refine ⟨fun i m H => m + i = xs.length ∧ Pv i H, ⟨xs.length, by simp, h0⟩, ?_⟩
  rintro i m H ⟨em, p⟩
  rcases Nat.lt_or_ge i xs.length with lt | ge
  · refine .inr ⟨goes i H lt p, Pv (i + 1), fun H' p' => ⟨m - 1, by omega, by omega, p'⟩, fun v H' y => ?_⟩
    obtain ⟨T, x, y', rfl, hx, hy, hT, rfl⟩ := gives i H v H' p y
    exact hs i x y' T H hx hy p hT
  · have e : i = xs.length := by omega
    subst e
    exact .inl ⟨stops H p, hd H p⟩
def spSame (n : Nat) : Sp := fun vs H Q _ => ∃ (x y : V) (m : Nat), vs = [x, y] ∧ n = m + 1 ∧ Alike H m x y ∧ ∀ H', Same H H' → Q (.bl true) H'
section
variable {P : Program} {w : World} {K : PySem.W.Frag} {mg : Str → Option Value} {base : Heap}
structure SameG (mg : Str → Option Value) : Prop where
  isi : mg "isinstance" = none
  list : mg "list" = none
  tuple : mg "tuple" = none
  len : mg "len" = none
  all : mg "all" = none
  zip : mg "zip" = none
  str : mg "str" = none
  int : mg "int" = none
  bool : mg "bool" = none
theorem scSame : FnScope ["_law_found", "_law_due", "_law_one", "_law_two"] ["_law_found", "_law_due"] (defScope sSame) := ⟨rfl, rfl, rfl, by decide +kernel, rfl, by decide +kernel, by decide +kernel⟩
theorem kitB_of {K : PySem.W.Frag} {a b : String} {r : Bool} (h : kitB a b = some r) : PySem.W.kitOne K (.type a) (.type b) = some r := h
theorem kit_lt {K : PySem.W.Frag} {a : String} {p r : Bool} (h1 : kitB a "list" = some p) (h2 : kitB a "tuple" = some r) : PySem.W.kitAny K (.type a) [.type "list", .type "tuple"] = some (p || r) := by
  refine kitAny_cons (kitB_of h1) (fun e => ?_) (fun e => by rw [e]; rfl)
  refine kitAny_cons (kitB_of h2) (fun e2 => by rw [e, e2]; exact kitAny_nil) (fun e2 => by rw [e, e2]; rfl)
theorem ok_same {n : Nat} {f : Addr} {fd : FuncData} (F : Fun K "_law_same" "_law_same" sSame f fd) (b2 : Binds K fd ["_law_found", "_law_due"] []) (mF : mg "_law_same" = some (.ref f)) (G : FnOk P w K mg base CX0 n f fd ["_law_found", "_law_due"] (spSame n)) (M : SameG mg) :
    FnOk P w K mg base CX0 (n + 1) f fd ["_law_found", "_law_due"] (spSame (n + 1)) := by
  refine F.ok scSame (fun vs H Q E h => ?_) (fun cdv A outer s H vs Q E hr h => ?_)
  · obtain ⟨x, y, m, rfl, _⟩ := h
    rfl
  obtain ⟨x, y, m, rfl, em, hA, q⟩ := h
  have em : n = m := by omega
  subst em
  refine ⟨_, pss_cons (ps_if (pt_val (pe_callB (id := "isinstance") call_isiT (by rfl) M.isi (by decide +kernel) (pa_cons (pv 1) (pa_cons (pe_tup (pa_cons (pe_bltn (v := .ty "list") (by rfl) M.list (by decide +kernel) rfl) (pa_cons (pe_bltn (v := .ty "tuple") (by rfl) M.tuple (by decide +kernel) rfl) pa_nil))) pa_nil))))
      (pss_cons (ps_if (PW.pt (pw_or (pt_cmpR op_ne
            (pe_callB (id := "isinstance") call_isi (by rfl) M.isi (by decide +kernel) (pa_cons (pv 0) (pa_cons (pe_bltn (v := .ty "list") (by rfl) M.list (by decide +kernel) rfl) pa_nil)))
            (pe_callB (id := "isinstance") call_isi (by rfl) M.isi (by decide +kernel) (pa_cons (pv 1) (pa_cons (pe_bltn (v := .ty "list") (by rfl) M.list (by decide +kernel) rfl) pa_nil))) (nomark _))
          (pw_or1 (pt_cmpR op_ne
            (pe_callB (id := "isinstance") call_isi (by rfl) M.isi (by decide +kernel) (pa_cons (pv 0) (pa_cons (pe_bltn (v := .ty "tuple") (by rfl) M.tuple (by decide +kernel) rfl) pa_nil)))
            (pe_callB (id := "isinstance") call_isi (by rfl) M.isi (by decide +kernel) (pa_cons (pv 1) (pa_cons (pe_bltn (v := .ty "tuple") (by rfl) M.tuple (by decide +kernel) rfl) pa_nil))) (nomark _))))) (pss_one (ps_ret pe_bl)) pss_nil)
      (pss_cons (ps_if (pt_cmpR op_ne (pe_callB call_len_seq (by rfl) M.len PySem.boot_len (pa_cons (pv 0) pa_nil)) (pe_callB call_len_seq (by rfl) M.len PySem.boot_len (pa_cons (pv 1) pa_nil)) (nomark _)) (pss_one (ps_ret pe_bl)) pss_nil)
      (pss_one (ps_ret (pe_callB (cr_all rfl) (by rfl) M.all (by decide +kernel) (pa_cons (pe_lc (own := [("_law_one", 2), ("_law_two", 3)]) (g := gTup K 2 (gCons (gName 2) (gCons (gName 3) gNil))) (tt := tYes) (te := tCall (spSame n) [] E0 (tCons (tVar 2) (tCons (tVar 3) tNil))) rfl scSame.nd
        (pi_zipA (by rfl) M.zip (pa_cons (pv 0) (pa_cons (pv 1) pa_nil))) (blkOk_by (N := ["_law_found", "_law_due", "_law_one", "_law_two"]) (sc := defScope sSame) (by decide +kernel))
        (fun _ _ _ _ _ => pg_tup (by rfl) (pgs_cons (pg_name (i := 2) scSame.nd rfl (Or.inl rfl)) (pgs_cons (pg_name (i := 3) scSame.nd rfl (Or.inl rfl)) pgs_nil)))
        (fun _ _ _ _ _ => pts_nil) (fun _ _ _ _ _ => pe_call G hr (by rfl) mF F.kp b2 .nil pass0 (pa_cons (pv 2) (pa_cons (pv 3) pa_nil)))) pa_nil)))))) pss_nil)
    (pss_cons (ps_if (PW.pt (pw_or (pt_cmpR op_isN (pv 1) pe_non (nomark _)) (pw_or1 (pt_val (pe_callB (id := "isinstance") call_isi (by rfl) M.isi (by decide +kernel) (pa_cons (pv 1) (pa_cons (pe_bltn (v := .ty "str") (by rfl) M.str (by decide +kernel) rfl) pa_nil)))))))
      (pss_one (ps_ret (pe_and (pe_cmpR op_eq (pv 0) (pv 1) (nomark _)) (pe_one (pe_cmpR op_eq
            (pe_callB (id := "isinstance") call_isi (by rfl) M.isi (by decide +kernel) (pa_cons (pv 0) (pa_cons (pe_bltn (v := .ty "str") (by rfl) M.str (by decide +kernel) rfl) pa_nil)))
            (pe_callB (id := "isinstance") call_isi (by rfl) M.isi (by decide +kernel) (pa_cons (pv 1) (pa_cons (pe_bltn (v := .ty "str") (by rfl) M.str (by decide +kernel) rfl) pa_nil))) (nomark _)))))) pss_nil)
    (pss_one (ps_ret (pe_and (pe_callB (id := "isinstance") call_isi (by rfl) M.isi (by decide +kernel) (pa_cons (pv 0) (pa_cons (pe_bltn (v := .ty "int") (by rfl) M.int (by decide +kernel) rfl) pa_nil)))
      (pe_and (pe_cmpR op_eq
            (pe_callB (id := "isinstance") call_isi (by rfl) M.isi (by decide +kernel) (pa_cons (pv 0) (pa_cons (pe_bltn (v := .ty "bool") (by rfl) M.bool (by decide +kernel) rfl) pa_nil)))
            (pe_callB (id := "isinstance") call_isi (by rfl) M.isi (by decide +kernel) (pa_cons (pv 1) (pa_cons (pe_bltn (v := .ty "bool") (by rfl) M.bool (by decide +kernel) rfl) pa_nil))) (nomark _))
        (pe_one (pe_cmpR op_eq (pv 0) (pv 1) (nomark _)))))))), ?_⟩
  refine ⟨_, rfl, (by show 2 ≤ sizeLine; decide), fun p hp => ?_⟩
  have s1 := same_new hp (.tup [V.ty "list", V.ty "tuple"])
  have plain : Plain x ∧ x = y ∨ ∃ m a b xs ys, n = m + 1 ∧ x = .ref a ∧ y = .ref b ∧ ((H a = some (.lst xs) ∧ H b = some (.lst ys)) ∨ (H a = some (.tup xs) ∧ H b = some (.tup ys))) ∧
      xs.length = ys.length ∧ xs.length ≤ 1000000 ∧ ∀ (i : Nat) (u v : V), xs[i]? = some u → ys[i]? = some v → Alike H m u v := by
    cases n with
    | zero => unfold Alike at hA; exact .inl hA
    | succ m =>
      unfold Alike at hA
      rcases hA with h | ⟨a, b, xs, ys, h⟩
      · exact .inl h
      · exact .inr ⟨m, a, b, xs, ys, rfl, h⟩
  rcases plain with ⟨px, rfl⟩ | ⟨m, a, b, xs, ys, rfl, rfl, rfl, kinds, hl, hz, each⟩
  · cases x with
    | int i =>
      refine ⟨_, p, _, _, [.type "list", .type "tuple"], false, rfl, upd_same, .cons (.ty _) (.cons (.ty _) .nil), .base (.int i), kit_lt (p := false) (r := false) (by decide +kernel) (by decide +kernel), false, rfl, iteF ?_⟩
      refine ⟨_, rfl, rfl, false, congrArg V.bl (decide_eq_false (fun z => nomatch z)), iteF ?_⟩
      refine ⟨_, rfl, _, _, _, _, false, rfl, .ty "str", .base (.int i), kitB_of (by decide +kernel), false, rfl, iteF ?_⟩
      refine ⟨_, rfl, _, _, _, _, true, rfl, .ty "int", .base (.int i), kitB_of (by decide +kernel), true, rfl, iteT ?_⟩
      refine ⟨_, rfl, _, _, _, _, false, rfl, .ty "bool", .base (.int i), kitB_of (by decide +kernel), _, rfl, _, _, _, _, false, rfl, .ty "bool", .base (.int i), kitB_of (by decide +kernel), rfl, true, congrArg V.bl (decide_eq_true rfl), iteT ?_⟩
      refine ⟨_, rfl, _, rfl, rfl, ?_⟩
      have e : decide (V.int i = V.int i) = true := decide_eq_true rfl
      rw [e]
      exact q _ s1
    | bl i =>
      refine ⟨_, p, _, _, [.type "list", .type "tuple"], false, rfl, upd_same, .cons (.ty _) (.cons (.ty _) .nil), .base (.bl i), kit_lt (p := false) (r := false) (by decide +kernel) (by decide +kernel), false, rfl, iteF ?_⟩
      refine ⟨_, rfl, rfl, false, congrArg V.bl (decide_eq_false (fun z => nomatch z)), iteF ?_⟩
      refine ⟨_, rfl, _, _, _, _, false, rfl, .ty "str", .base (.bl i), kitB_of (by decide +kernel), false, rfl, iteF ?_⟩
      refine ⟨_, rfl, _, _, _, _, true, rfl, .ty "int", .base (.bl i), kitB_of (by decide +kernel), true, rfl, iteT ?_⟩
      refine ⟨_, rfl, _, _, _, _, true, rfl, .ty "bool", .base (.bl i), kitB_of (by decide +kernel), _, rfl, _, _, _, _, true, rfl, .ty "bool", .base (.bl i), kitB_of (by decide +kernel), rfl, true, congrArg V.bl (decide_eq_true rfl), iteT ?_⟩
      refine ⟨_, rfl, _, rfl, rfl, ?_⟩
      have e : decide (V.bl i = V.bl i) = true := decide_eq_true rfl
      rw [e]
      exact q _ s1
    | str i =>
      refine ⟨_, p, _, _, [.type "list", .type "tuple"], false, rfl, upd_same, .cons (.ty _) (.cons (.ty _) .nil), .base (.str i), kit_lt (p := false) (r := false) (by decide +kernel) (by decide +kernel), false, rfl, iteF ?_⟩
      refine ⟨_, rfl, rfl, false, congrArg V.bl (decide_eq_false (fun z => nomatch z)), iteF ?_⟩
      refine ⟨_, rfl, _, _, _, _, true, rfl, .ty "str", .base (.str i), kitB_of (by decide +kernel), true, rfl, iteT ?_⟩
      refine ⟨_, rfl, _, rfl, rfl, true, congrArg V.bl (decide_eq_true rfl), iteT ?_⟩
      refine ⟨_, rfl, _, _, _, _, true, rfl, .ty "str", .base (.str i), kitB_of (by decide +kernel), _, rfl, _, _, _, _, true, rfl, .ty "str", .base (.str i), kitB_of (by decide +kernel), rfl, ?_⟩
      have e : decide (V.bl true = V.bl true) = true := decide_eq_true rfl
      rw [e]
      exact q _ s1
    | non =>
      refine ⟨_, p, _, _, [.type "list", .type "tuple"], false, rfl, upd_same, .cons (.ty _) (.cons (.ty _) .nil), .base .non, kit_lt (p := false) (r := false) (by decide +kernel) (by decide +kernel), false, rfl, iteF ?_⟩
      refine ⟨_, rfl, rfl, true, congrArg V.bl (decide_eq_true rfl), iteT ?_⟩
      refine iteT ?_
      refine ⟨_, rfl, _, rfl, rfl, true, congrArg V.bl (decide_eq_true rfl), iteT ?_⟩
      refine ⟨_, rfl, _, _, _, _, false, rfl, .ty "str", .base .non, kitB_of (by decide +kernel), _, rfl, _, _, _, _, false, rfl, .ty "str", .base .non, kitB_of (by decide +kernel), rfl, ?_⟩
      have e : decide (V.bl false = V.bl false) = true := decide_eq_true rfl
      rw [e]
      exact q _ s1
    | _ => exact px.elim
  · rcases kinds with ⟨ha, hb⟩ | ⟨ha, hb⟩
    · have ha1 := s1 _ _ ha
      have hb1 := s1 _ _ hb
      refine ⟨_, p, _, _, [.type "list", .type "tuple"], true, rfl, upd_same, .cons (.ty _) (.cons (.ty _) .nil), .base (.lst hb1), kit_lt (p := true) (r := false) (by decide +kernel) (by decide +kernel), true, rfl, iteT ?_⟩
      refine ⟨_, rfl, _, _, _, _, true, rfl, .ty "list", .base (.lst ha1), kitB_of (by decide +kernel), _, rfl, _, _, _, _, true, rfl, .ty "list", .base (.lst hb1), kitB_of (by decide +kernel), rfl, false, congrArg (fun z => V.bl (!z)) (decide_eq_true rfl), iteF ?_⟩
      refine ⟨_, rfl, _, _, _, _, false, rfl, .ty "tuple", .base (.lst ha1), kitB_of (by decide +kernel), _, rfl, _, _, _, _, false, rfl, .ty "tuple", .base (.lst hb1), kitB_of (by decide +kernel), rfl, false, congrArg (fun z => V.bl (!z)) (decide_eq_true rfl), iteF ?_⟩
      refine ⟨_, rfl, a, _, rfl, .inl (.inl (.inl ha1)), _, rfl, b, _, rfl, .inl (.inl (.inl hb1)), rfl, false, congrArg (fun z => V.bl (!z)) (decide_eq_true (by rw [hl])), iteF ?_⟩
      refine ⟨_, rfl, _, rfl, a, b, xs, ys, rfl, .inl ⟨.inl (.inl ha1), .inl (.inl hb1), fun D hD => ?_⟩⟩
      refine lc_pairs (J := Itz K a b) (xs := xs) (ys := ys) hl (fun i H2 => H2 D = some (.lst (List.replicate i (V.bl true))) ∧ Same _ H2)
        (fun H2 h => ⟨xs, ys, .inl (.inl (h.2 _ _ ha1)), .inl (.inl (h.2 _ _ hb1)), .inl (Nat.le_refl _)⟩)
        (fun i H2 lt h => ⟨xs, ys, xs[i], ys[i]'(by omega), .inl (.inl (h.2 _ _ ha1)), .inl (.inl (h.2 _ _ hb1)), List.getElem?_eq_getElem lt, List.getElem?_eq_getElem (by omega)⟩)
        (fun i H2 v H3 h ⟨T, u, v', e1, hT, e2, f1, f2⟩ => ⟨T, u, v', e1, f1 xs (.inl (.inl (h.2 _ _ ha1))), f2 ys (.inl (.inl (h.2 _ _ hb1))), hT, e2⟩)
        ⟨upd_same, same_new hD _⟩ (fun i u v T H2 hu hv h hT => ?_) (fun H2 h => ⟨D, List.replicate xs.length true, rfl, .inl (.inl (by rw [List.map_replicate]; exact h.1)), ?_⟩)
      · have sT := same_new hT (.tup [u, v])
        refine ⟨T, _, rfl, .inl (.inl upd_same), rfl, _, _, rfl, _, _, rfl, rfl, rfl, ?_⟩
        have lt : i < xs.length := (List.getElem?_eq_some_iff.mp hu).1
        refine ⟨_, rfl, _, rfl, u, v, m, rfl, rfl, Alike.mono (s1.trans (h.2.trans sT)) m (each i u v hu hv), fun H4 s4 => ⟨_, s4 _ _ (sT _ _ h.1), ?_, ?_, ?_⟩⟩
        · rw [List.length_replicate]; exact Nat.lt_of_lt_of_le (by omega : i < 1000000) (by decide)
        · rw [upd_same, List.replicate_succ']
        · intro c o z
          have nD : c ≠ D := fun e => by subst e; rw [hD] at z; cases z
          rw [upd_ne nD]
          exact s4 _ _ (sT _ _ (h.2 _ _ z))
      · have e : (List.replicate xs.length true).all id = true := by rw [List.all_eq_true]; intro x hx; rw [List.eq_of_mem_replicate hx]; rfl
        rw [e]
        exact q _ (s1.trans h.2)
    · have ha1 := s1 _ _ ha
      have hb1 := s1 _ _ hb
      refine ⟨_, p, _, _, [.type "list", .type "tuple"], true, rfl, upd_same, .cons (.ty _) (.cons (.ty _) .nil), .base (.tup hb1), kit_lt (p := false) (r := true) (by decide +kernel) (by decide +kernel), true, rfl, iteT ?_⟩
      refine ⟨_, rfl, _, _, _, _, false, rfl, .ty "list", .base (.tup ha1), kitB_of (by decide +kernel), _, rfl, _, _, _, _, false, rfl, .ty "list", .base (.tup hb1), kitB_of (by decide +kernel), rfl, false, congrArg (fun z => V.bl (!z)) (decide_eq_true rfl), iteF ?_⟩
      refine ⟨_, rfl, _, _, _, _, true, rfl, .ty "tuple", .base (.tup ha1), kitB_of (by decide +kernel), _, rfl, _, _, _, _, true, rfl, .ty "tuple", .base (.tup hb1), kitB_of (by decide +kernel), rfl, false, congrArg (fun z => V.bl (!z)) (decide_eq_true rfl), iteF ?_⟩
      refine ⟨_, rfl, a, _, rfl, .inr (.inl (.inl ha1)), _, rfl, b, _, rfl, .inr (.inl (.inl hb1)), rfl, false, congrArg (fun z => V.bl (!z)) (decide_eq_true (by rw [hl])), iteF ?_⟩
      refine ⟨_, rfl, _, rfl, a, b, xs, ys, rfl, .inr ⟨.inl (.inl ha1), .inl (.inl hb1), fun D hD => ?_⟩⟩
      refine lc_pairs (J := ItzT K a b) (xs := xs) (ys := ys) hl (fun i H2 => H2 D = some (.lst (List.replicate i (V.bl true))) ∧ Same _ H2)
        (fun H2 h => ⟨xs, ys, .inl (.inl (h.2 _ _ ha1)), .inl (.inl (h.2 _ _ hb1)), .inl (Nat.le_refl _)⟩)
        (fun i H2 lt h => ⟨xs, ys, xs[i], ys[i]'(by omega), .inl (.inl (h.2 _ _ ha1)), .inl (.inl (h.2 _ _ hb1)), List.getElem?_eq_getElem lt, List.getElem?_eq_getElem (by omega)⟩)
        (fun i H2 v H3 h ⟨T, u, v', e1, hT, e2, f1, f2⟩ => ⟨T, u, v', e1, f1 xs (.inl (.inl (h.2 _ _ ha1))), f2 ys (.inl (.inl (h.2 _ _ hb1))), hT, e2⟩)
        ⟨upd_same, same_new hD _⟩ (fun i u v T H2 hu hv h hT => ?_) (fun H2 h => ⟨D, List.replicate xs.length true, rfl, .inl (.inl (by rw [List.map_replicate]; exact h.1)), ?_⟩)
      · have sT := same_new hT (.tup [u, v])
        refine ⟨T, _, rfl, .inl (.inl upd_same), rfl, _, _, rfl, _, _, rfl, rfl, rfl, ?_⟩
        have lt : i < xs.length := (List.getElem?_eq_some_iff.mp hu).1
        refine ⟨_, rfl, _, rfl, u, v, m, rfl, rfl, Alike.mono (s1.trans (h.2.trans sT)) m (each i u v hu hv), fun H4 s4 => ⟨_, s4 _ _ (sT _ _ h.1), ?_, ?_, ?_⟩⟩
        · rw [List.length_replicate]; exact Nat.lt_of_lt_of_le (by omega : i < 1000000) (by decide)
        · rw [upd_same, List.replicate_succ']
        · intro c o z
          have nD : c ≠ D := fun e => by subst e; rw [hD] at z; cases z
          rw [upd_ne nD]
          exact s4 _ _ (sT _ _ (h.2 _ _ z))
      · have e : (List.replicate xs.length true).all id = true := by rw [List.all_eq_true]; intro x hx; rw [List.eq_of_mem_replicate hx]; rfl
        rw [e]
        exact q _ (s1.trans h.2)
theorem same_ok {f : Addr} {fd : FuncData} (F : Fun K "_law_same" "_law_same" sSame f fd) (b2 : Binds K fd ["_law_found", "_law_due"] []) (mF : mg "_law_same" = some (.ref f)) (M : SameG mg) :
    ∀ n : Nat, FnOk P w K mg base CX0 n f fd ["_law_found", "_law_due"] (spSame n)
  | 0 => none_left fun vs H Q E h => by
    obtain ⟨x, y, m, _, e, _⟩ := h
    omega
  | n + 1 => ok_same F b2 mF (same_ok F b2 mF M n) M
end
end Rp

/-! Data of any depth: what stands as which, and which data are TERMs. -/
namespace Rp
open PySem L2
mutual
/-- the value v stands as the data d; its lists are others than the box b -/
def DAt (H : Hp) (b : Addr) : V → PyData → Prop
  | v, .none => v = .non
  | v, .bool c => v = .bl c
  | v, .int i => v = .int i
  | v, .str x => v = .str x
  | v, .list ds => ∃ (a : Addr) (xs : List V), v = .ref a ∧ a ≠ b ∧ H a = some (.lst xs) ∧ DAtAll H b xs ds
  | v, .tuple ds => ∃ (a : Addr) (xs : List V), v = .ref a ∧ H a = some (.tup xs) ∧ DAtAll H b xs ds
  | _, .dict _ => False
def DAtAll (H : Hp) (b : Addr) : List V → List PyData → Prop
  | xs, [] => xs = []
  | xs, d :: ds => ∃ (x : V) (r : List V), xs = x :: r ∧ DAt H b x d ∧ DAtAll H b r ds
end
mutual
theorem DAt.dp {K : PySem.W.Frag} {H : Hp} {b : Addr} : ∀ (d : PyData) {v : V}, DAt H b v d → Dp K H v d
  | .none, _, h => by unfold DAt at h; subst h; exact .non
  | .bool _, _, h => by unfold DAt at h; subst h; exact .bl _
  | .int _, _, h => by unfold DAt at h; subst h; exact .int _
  | .str _, _, h => by unfold DAt at h; subst h; exact .str _
  | .list ds, _, h => by
    unfold DAt at h
    obtain ⟨a, xs, rfl, _, e, q⟩ := h
    exact .lst (.inl (.inl e)) (DAtAll.dp ds q)
  | .tuple ds, _, h => by
    unfold DAt at h
    obtain ⟨a, xs, rfl, e, q⟩ := h
    exact .tup (.inl (.inl e)) (DAtAll.dp ds q)
  | .dict _, _, h => by unfold DAt at h; exact h.elim
theorem DAtAll.dp {K : PySem.W.Frag} {H : Hp} {b : Addr} : ∀ (ds : List PyData) {xs : List V}, DAtAll H b xs ds → DpAll K H xs ds
  | [], _, h => by unfold DAtAll at h; subst h; exact .nil
  | d :: ds, _, h => by
    unfold DAtAll at h
    obtain ⟨x, r, rfl, q, q'⟩ := h
    exact .cons (DAt.dp d q) (DAtAll.dp ds q')
end
mutual
theorem DAt.mono {H H' : Hp} {b : Addr} (et : ∀ a xs, H a = some (.tup xs) → H' a = some (.tup xs)) (el : ∀ a xs, a ≠ b → H a = some (.lst xs) → H' a = some (.lst xs)) : ∀ (d : PyData) {v : V}, DAt H b v d → DAt H' b v d
  | .none, _, h => by unfold DAt at h ⊢; exact h
  | .bool _, _, h => by unfold DAt at h ⊢; exact h
  | .int _, _, h => by unfold DAt at h ⊢; exact h
  | .str _, _, h => by unfold DAt at h ⊢; exact h
  | .list ds, _, h => by
    unfold DAt at h ⊢
    obtain ⟨a, xs, e, n, q, q'⟩ := h
    exact ⟨a, xs, e, n, el _ _ n q, DAtAll.mono et el ds q'⟩
  | .tuple ds, _, h => by
    unfold DAt at h ⊢
    obtain ⟨a, xs, e, q, q'⟩ := h
    exact ⟨a, xs, e, et _ _ q, DAtAll.mono et el ds q'⟩
  | .dict _, _, h => by unfold DAt at h; exact h.elim
theorem DAtAll.mono {H H' : Hp} {b : Addr} (et : ∀ a xs, H a = some (.tup xs) → H' a = some (.tup xs)) (el : ∀ a xs, a ≠ b → H a = some (.lst xs) → H' a = some (.lst xs)) : ∀ (ds : List PyData) {xs : List V}, DAtAll H b xs ds → DAtAll H' b xs ds
  | [], _, h => by unfold DAtAll at h ⊢; exact h
  | d :: ds, _, h => by
    unfold DAtAll at h ⊢
    obtain ⟨x, r, e, q, q'⟩ := h
    exact ⟨x, r, e, DAt.mono et el d q, DAtAll.mono et el ds q'⟩
end
theorem DAt.same {H H' : Hp} {b : Addr} (e : Same H H') {d : PyData} {v : V} (h : DAt H b v d) : DAt H' b v d := DAt.mono (fun a _ q => e a _ q) (fun a _ _ q => e a _ q) d h
theorem DAt.but {H H' : Hp} {b : Addr} {ys : List V} (e : But b H H') (hb : H b = some (.lst ys)) {d : PyData} {v : V} (h : DAt H b v d) : DAt H' b v d :=
  DAt.mono (fun a _ q => e a _ q (ne_of q hb (by intro z; cases z))) (fun a _ n q => e a _ q n) d h
theorem DAtAll.same {H H' : Hp} {b : Addr} (e : Same H H') {ds : List PyData} {xs : List V} (h : DAtAll H b xs ds) : DAtAll H' b xs ds := DAtAll.mono (fun a _ q => e a _ q) (fun a _ _ q => e a _ q) ds h
theorem DAtAll.but {H H' : Hp} {b : Addr} {ys : List V} (e : But b H H') (hb : H b = some (.lst ys)) {ds : List PyData} {xs : List V} (h : DAtAll H b xs ds) : DAtAll H' b xs ds :=
  DAtAll.mono (fun a _ q => e a _ q (ne_of q hb (by intro z; cases z))) (fun a _ n q => e a _ q n) ds h
theorem DAtAll.nil {H : Hp} {b : Addr} : DAtAll H b [] [] := by unfold DAtAll; rfl
theorem DAtAll.cons {H : Hp} {b : Addr} {x : V} {xs : List V} {d : PyData} {ds : List PyData} (h : DAt H b x d) (h' : DAtAll H b xs ds) : DAtAll H b (x :: xs) (d :: ds) := by unfold DAtAll; exact ⟨x, xs, rfl, h, h'⟩
theorem DAtAll.head {H : Hp} {b : Addr} {x : V} {xs : List V} {ds : List PyData} (h : DAtAll H b (x :: xs) ds) : ∃ d ds', ds = d :: ds' ∧ DAt H b x d ∧ DAtAll H b xs ds' := by
  cases ds with
  | nil => unfold DAtAll at h; cases h
  | cons d ds =>
    unfold DAtAll at h
    obtain ⟨y, r, e, q, q'⟩ := h
    cases e
    exact ⟨d, ds, rfl, q, q'⟩
theorem DAtAll.len {H : Hp} {b : Addr} : ∀ {xs : List V} {ds : List PyData}, DAtAll H b xs ds → xs.length = ds.length
  | xs, [], h => by unfold DAtAll at h; subst h; rfl
  | xs, d :: ds, h => by
    unfold DAtAll at h
    obtain ⟨x, r, rfl, _, q⟩ := h
    rw [List.length_cons, List.length_cons, DAtAll.len q]
theorem DAtAll.append {H : Hp} {b : Addr} : ∀ {xs ys : List V} {ds es : List PyData}, DAtAll H b xs ds → DAtAll H b ys es → DAtAll H b (xs ++ ys) (ds ++ es)
  | xs, ys, [], es, h, h' => by unfold DAtAll at h; subst h; exact h'
  | xs, ys, d :: ds, es, h, h' => by
    unfold DAtAll at h
    obtain ⟨x, r, rfl, q, q'⟩ := h
    exact .cons q (DAtAll.append q' h')
theorem DAtAll.parted {H : Hp} {b : Addr} : ∀ {xs ys : List V} {ds : List PyData}, DAtAll H b (xs ++ ys) ds → ∃ d1 d2, ds = d1 ++ d2 ∧ DAtAll H b xs d1 ∧ DAtAll H b ys d2
  | [], ys, ds, h => ⟨[], ds, rfl, .nil, h⟩
  | x :: xs, ys, ds, h => by
    obtain ⟨d, ds', rfl, q, q'⟩ := DAtAll.head h
    obtain ⟨d1, d2, rfl, h1, h2⟩ := DAtAll.parted q'
    exact ⟨d :: d1, d2, rfl, .cons q h1, h2⟩
theorem DAtAll.take {H : Hp} {b : Addr} : ∀ {xs : List V} {ds : List PyData} (n : Nat), DAtAll H b xs ds → DAtAll H b (xs.take n) (ds.take n)
  | xs, ds, 0, h => by simp; exact .nil
  | [], ds, n + 1, h => by have := h.len; cases ds with | nil => simpa using DAtAll.nil | cons => simp at this
  | x :: xs, ds, n + 1, h => by
    obtain ⟨d, ds', rfl, q, q'⟩ := DAtAll.head h
    exact .cons q (DAtAll.take n q')
theorem DAtAll.drop {H : Hp} {b : Addr} : ∀ {xs : List V} {ds : List PyData} (n : Nat), DAtAll H b xs ds → DAtAll H b (xs.drop n) (ds.drop n)
  | xs, ds, 0, h => by simpa using h
  | [], ds, n + 1, h => by have := h.len; cases ds with | nil => simpa using DAtAll.nil | cons => simp at this
  | x :: xs, ds, n + 1, h => by
    obtain ⟨d, ds', rfl, q, q'⟩ := DAtAll.head h
    simpa using DAtAll.drop n q'
theorem DAtAll.back {H : Hp} {b : Addr} : ∀ {xs : List V} {ds : List PyData}, DAtAll H b xs ds → DAtAll H b xs.reverse ds.reverse
  | [], ds, h => by have := h.len; cases ds with | nil => simpa using DAtAll.nil | cons => simp at this
  | x :: xs, ds, h => by
    obtain ⟨d, ds', rfl, q, q'⟩ := DAtAll.head h
    rw [List.reverse_cons, List.reverse_cons]
    exact (DAtAll.back q').append (.cons q .nil)
theorem DAtAll.get {H : Hp} {b : Addr} : ∀ {xs : List V} {ds : List PyData} {i : Nat} {x : V}, DAtAll H b xs ds → xs[i]? = some x → ∃ d, ds[i]? = some d ∧ DAt H b x d
  | [], ds, i, x, h, e => by simp at e
  | y :: xs, ds, 0, x, h, e => by
    obtain ⟨d, ds', rfl, q, q'⟩ := DAtAll.head h
    simp at e
    subst e
    exact ⟨d, rfl, q⟩
  | y :: xs, ds, i + 1, x, h, e => by
    obtain ⟨d, ds', rfl, q, q'⟩ := DAtAll.head h
    simpa using DAtAll.get q' (by simpa using e)
/-! ### TERMs as data -/
def tmD : Tm → PyData
  | .v n => .int n
  | .z => .tuple [.str "0"]
  | .s t => .tuple [.str "s", tmD t]
  | .f l r => .tuple [.str "f", tmD l, tmD r]
theorem TmAt.dat {H : Hp} {b : Addr} {v : V} {t : Tm} (h : TmAt H v t) : DAt H b v (tmD t) := by
  induction h with
  | v n => unfold tmD DAt; rfl
  | z h => unfold tmD DAt; exact ⟨_, _, rfl, h, .cons (by unfold DAt; rfl) .nil⟩
  | s h _ ih => unfold tmD DAt; exact ⟨_, _, rfl, h, .cons (by unfold DAt; rfl) (.cons ih .nil)⟩
  | f h _ _ ih ih' => unfold tmD DAt; exact ⟨_, _, rfl, h, .cons (by unfold DAt; rfl) (.cons ih (.cons ih' .nil))⟩
theorem DAtAll.nil_of {H : Hp} {b : Addr} {xs : List V} (h : DAtAll H b xs []) : xs = [] := by unfold DAtAll at h; exact h
theorem DAtAll.cons_of {H : Hp} {b : Addr} {xs : List V} {d : PyData} {ds : List PyData} (h : DAtAll H b xs (d :: ds)) : ∃ x r, xs = x :: r ∧ DAt H b x d ∧ DAtAll H b r ds := by unfold DAtAll at h; exact h
theorem DAt.str_of {H : Hp} {b : Addr} {v : V} {x : Str} (h : DAt H b v (.str x)) : v = .str x := by unfold DAt at h; exact h
theorem DAt.int_of {H : Hp} {b : Addr} {v : V} {x : Int} (h : DAt H b v (.int x)) : v = .int x := by unfold DAt at h; exact h
theorem DAt.tup_of {H : Hp} {b : Addr} {v : V} {ds : List PyData} (h : DAt H b v (.tuple ds)) : ∃ (a : Addr) (xs : List V), v = .ref a ∧ H a = some (.tup xs) ∧ DAtAll H b xs ds := by unfold DAt at h; exact h
theorem DAt.lst_of {H : Hp} {b : Addr} {v : V} {ds : List PyData} (h : DAt H b v (.list ds)) : ∃ (a : Addr) (xs : List V), v = .ref a ∧ a ≠ b ∧ H a = some (.lst xs) ∧ DAtAll H b xs ds := by unfold DAt at h; exact h
theorem DAt.tm {H : Hp} {b : Addr} : ∀ (t : Tm) {v : V}, DAt H b v (tmD t) → TmAt H v t
  | .v n, _, h => by rw [DAt.int_of h]; exact .v n
  | .z, _, h => by
    obtain ⟨a, xs, rfl, e, q⟩ := DAt.tup_of h
    obtain ⟨x, r, rfl, q1, q2⟩ := q.cons_of
    cases q1.str_of
    cases q2.nil_of
    exact .z e
  | .s t, _, h => by
    obtain ⟨a, xs, rfl, e, q⟩ := DAt.tup_of h
    obtain ⟨x, r, rfl, q1, q2⟩ := q.cons_of
    obtain ⟨y, r', rfl, q3, q4⟩ := q2.cons_of
    cases q1.str_of
    cases q4.nil_of
    exact .s e (DAt.tm t q3)
  | .f l r, _, h => by
    obtain ⟨a, xs, rfl, e, q⟩ := DAt.tup_of h
    obtain ⟨x, r1, rfl, q1, q2⟩ := q.cons_of
    obtain ⟨y, r2, rfl, q3, q4⟩ := q2.cons_of
    obtain ⟨y', r3, rfl, q5, q6⟩ := q4.cons_of
    cases q1.str_of
    cases q6.nil_of
    exact .f e (DAt.tm l q3) (DAt.tm r q5)
def IsT (d : PyData) : Prop := ∃ t, d = tmD t ∧ ∀ n ∈ t.nums, 0 ≤ n ∧ n ≤ 99
/-- a sign with as many parts as it takes -/
def Shaped (d : PyData) : Prop := ∃ (x : Str) (ds : List PyData), d = .tuple (.str x :: ds) ∧ ((x = "0" ∧ ds.length = 0) ∨ (x = "s" ∧ ds.length = 1) ∨ (x = "f" ∧ ds.length = 2))
theorem isT_shaped {x : Str} {ds : List PyData} (h : (x = "0" ∧ ds.length = 0) ∨ (x = "s" ∧ ds.length = 1) ∨ (x = "f" ∧ ds.length = 2)) : IsT (.tuple (.str x :: ds)) ↔ ∀ d ∈ ds, IsT d := by
  have s0 : ("0" : Str) ≠ "s" := by decide +kernel
  have s1 : ("0" : Str) ≠ "f" := by decide +kernel
  have s2 : ("s" : Str) ≠ "f" := by decide +kernel
  rcases h with ⟨rfl, h⟩ | ⟨rfl, h⟩ | ⟨rfl, h⟩
  · match ds, h with
    | [], _ => exact ⟨fun _ d hd => by simp at hd, fun _ => ⟨.z, rfl, fun n hn => by simp [Tm.nums] at hn⟩⟩
  · match ds, h with
    | [d], _ =>
      constructor
      · rintro ⟨t, e, g⟩ d' hd
        simp at hd
        subst hd
        cases t with
        | s t => unfold tmD at e; injection e with e; injection e with _ e; injection e with e _; exact ⟨t, e, g⟩
        | v n => cases e
        | z => unfold tmD at e; injection e with e; injection e with e _; injection e with e; exact absurd e.symm s0
        | f l r => unfold tmD at e; injection e with e; injection e with e _; injection e with e; exact absurd e s2
      · intro h
        obtain ⟨t, rfl, g⟩ := h d (by simp)
        exact ⟨.s t, rfl, g⟩
  · match ds, h with
    | [d, d'], _ =>
      constructor
      · rintro ⟨t, e, g⟩ d2 hd
        cases t with
        | f l r =>
          unfold tmD at e
          injection e with e
          injection e with _ e
          injection e with e1 e
          injection e with e2 _
          simp at hd
          rcases hd with rfl | rfl
          · exact ⟨l, e1, fun n hn => g n (by simp [Tm.nums, hn])⟩
          · exact ⟨r, e2, fun n hn => g n (by simp [Tm.nums, hn])⟩
        | v n => cases e
        | z => unfold tmD at e; injection e with e; injection e with e _; injection e with e; exact absurd e.symm s1
        | s t => unfold tmD at e; injection e with e; injection e with e _; injection e with e; exact absurd e.symm s2
      · intro h
        obtain ⟨l, rfl, g1⟩ := h d (by simp)
        obtain ⟨r, rfl, g2⟩ := h d' (by simp)
        refine ⟨.f l r, rfl, fun n hn => ?_⟩
        rcases List.mem_append.mp hn with q | q
        · exact g1 n q
        · exact g2 n q
theorem isT_int {n : Int} : IsT (.int n) ↔ 0 ≤ n ∧ n ≤ 99 := by
  constructor
  · rintro ⟨t, e, g⟩
    cases t with
    | v m => unfold tmD at e; injection e with e; subst e; exact g _ (by simp [Tm.nums])
    | z => cases e
    | s t => cases e
    | f l r => cases e
  · intro h
    exact ⟨.v n, rfl, fun m hm => by simp [Tm.nums] at hm; subst hm; exact h⟩
theorem isT_other {d : PyData} (h : ¬ Shaped d) (h' : ∀ n, d ≠ .int n) : ¬ IsT d := by
  rintro ⟨t, rfl, g⟩
  cases t with
  | v n => exact h' n rfl
  | z => exact h ⟨"0", [], rfl, .inl ⟨rfl, rfl⟩⟩
  | s t => exact h ⟨"s", [_], rfl, .inr (.inl ⟨rfl, rfl⟩)⟩
  | f l r => exact h ⟨"f", [_, _], rfl, .inr (.inr ⟨rfl, rfl⟩)⟩
end Rp

namespace Rp
open PySem PySem.Spec PyProof.Rows L2
def tyD : PyData → String
  | .none => "NoneType" | .bool _ => "bool" | .int _ => "int" | .str _ => "str" | .list _ => "list" | .tuple _ => "tuple" | .dict _ => "dict"
theorem DAt.tyx {K : PySem.W.Frag} {H : Hp} {b : Addr} {v : V} {d : PyData} (h : DAt H b v d) : TyX K H v (.type (tyD d)) := by
  cases d with
  | none => unfold DAt at h; subst h; exact .base .non
  | bool c => unfold DAt at h; subst h; exact .base (.bl c)
  | int i => unfold DAt at h; subst h; exact .base (.int i)
  | str x => unfold DAt at h; subst h; exact .base (.str x)
  | list ds => obtain ⟨a, xs, rfl, _, e, _⟩ := h.lst_of; exact .base (.lst e)
  | tuple ds => obtain ⟨a, xs, rfl, e, _⟩ := h.tup_of; exact .base (.tup e)
  | dict ds => unfold DAt at h; exact h.elim
def isI : PyData → Bool | .int _ => true | .bool _ => true | _ => false
def isB : PyData → Bool | .bool _ => true | _ => false
def isS : PyData → Bool | .str _ => true | _ => false
def isU : PyData → Bool | .tuple _ => true | _ => false
def isL : PyData → Bool | .list _ => true | _ => false
def isNum : PyData → Bool | .int _ => true | _ => false
section
variable {K : PySem.W.Frag}
theorem kitI (d : PyData) : PySem.W.kitOne K (.type (tyD d)) (.type "int") = some (isI d) := by cases d <;> exact kit_ty (by simp only [tyD, isI]; decide +kernel)
theorem kitB' (d : PyData) : PySem.W.kitOne K (.type (tyD d)) (.type "bool") = some (isB d) := by cases d <;> exact kit_ty (by simp only [tyD, isB]; decide +kernel)
theorem kitS (d : PyData) : PySem.W.kitOne K (.type (tyD d)) (.type "str") = some (isS d) := by cases d <;> exact kit_ty (by simp only [tyD, isS]; decide +kernel)
theorem kitU (d : PyData) : PySem.W.kitOne K (.type (tyD d)) (.type "tuple") = some (isU d) := by cases d <;> exact kit_ty (by simp only [tyD, isU]; decide +kernel)
theorem kitL (d : PyData) : PySem.W.kitOne K (.type (tyD d)) (.type "list") = some (isL d) := by cases d <;> exact kit_ty (by simp only [tyD, isL]; decide +kernel)
end
def okD (d : PyData) : Prop := d.canLay0 = true ∧ d.depth ≤ 60
theorem okAll {ds : List PyData} (h : PyData.canLayAll0 ds = true) (k : Nat) (hk : PyData.depthAll ds ≤ k) : ∀ d ∈ ds, d.canLay0 = true ∧ d.depth ≤ k := by
  induction ds with
  | nil => intro d hd; simp at hd
  | cons x ds ih =>
    simp only [PyData.canLayAll0, Bool.and_eq_true] at h
    simp only [PyData.depthAll] at hk
    intro d hd
    rcases List.mem_cons.mp hd with rfl | hd
    · exact ⟨h.1, by omega⟩
    · exact ih h.2 (by omega) d hd
theorem okD.tup {ds : List PyData} (h : okD (.tuple ds)) : ∀ d ∈ ds, okD d := fun d hd => by
  have h1 : PyData.canLayAll0 ds = true := by have := h.1; simpa [PyData.canLay0] using this
  have h2 : PyData.depthAll ds + 1 ≤ 60 := by have := h.2; simpa [PyData.depth] using this
  have := okAll h1 59 (by omega) d hd
  exact ⟨this.1, by omega⟩
theorem eqv_str {x : Str} {d : PyData} : PyData.eqv (.str x) d = true ↔ d = .str x := by
  cases d <;> simp [PyData.eqv]
  exact eq_comm
theorem eqv_tup {xs ys : List PyData} : PyData.eqv (.tuple xs) (.tuple ys) = PyData.eqvAll xs ys := by simp only [PyData.eqv]
theorem eqv_int {i j : Int} : PyData.eqv (.int i) (.int j) = (i == j) := by simp only [PyData.eqv]
theorem eqvAll_cons {x y : PyData} {xs ys : List PyData} : PyData.eqvAll (x :: xs) (y :: ys) = (PyData.eqv x y && PyData.eqvAll xs ys) := by simp only [PyData.eqvAll]
theorem eqvAll_nil : PyData.eqvAll [] [] = true := by simp only [PyData.eqvAll]
theorem hu65 {A : Around} {k : Nat} (hr : Room k A) : A.units + 65 < cLine := by have := hr.un; omega
def shapesD : PyData := .tuple [.tuple [.str "0", .int 1], .tuple [.str "s", .int 2], .tuple [.str "f", .int 3]]
def shapesL : List PyData := [.tuple [.str "0", .int 1], .tuple [.str "s", .int 2], .tuple [.str "f", .int 3]]
theorem shapes_any {d0 : PyData} {ds : List PyData} : (shapesL.any fun y => PyData.eqv y (.tuple [d0, .int ((ds.length + 1 : Nat) : Int)])) = true ↔ Shaped (.tuple (d0 :: ds)) := by
  have one : ∀ (x : Str) (n : Int), PyData.eqv (.tuple [.str x, .int n]) (.tuple [d0, .int ((ds.length + 1 : Nat) : Int)]) = true ↔ d0 = .str x ∧ n = ((ds.length + 1 : Nat) : Int) := by
    intro x n
    rw [eqv_tup, eqvAll_cons, eqvAll_cons, eqvAll_nil, eqv_int]
    simp only [Bool.and_true, Bool.and_eq_true, eqv_str, beq_iff_eq]
  simp only [shapesL, List.any_cons, List.any_nil, Bool.or_false, Bool.or_eq_true, one]
  constructor
  · rintro (⟨rfl, e⟩ | ⟨rfl, e⟩ | ⟨rfl, e⟩)
    · exact ⟨"0", ds, rfl, .inl ⟨rfl, by omega⟩⟩
    · exact ⟨"s", ds, rfl, .inr (.inl ⟨rfl, by omega⟩)⟩
    · exact ⟨"f", ds, rfl, .inr (.inr ⟨rfl, by omega⟩)⟩
  · rintro ⟨x, ds', e, h⟩
    injection e with e
    injection e with e1 e2
    subst e1 e2
    rcases h with ⟨rfl, h⟩ | ⟨rfl, h⟩ | ⟨rfl, h⟩
    · exact .inl ⟨rfl, by omega⟩
    · exact .inr (.inl ⟨rfl, by omega⟩)
    · exact .inr (.inr ⟨rfl, by omega⟩)
/-- x in t, t a tuple of data of any depth -/
def rInT (K : PySem.W.Frag) : R2 := fun x y H Q => ∃ (d : PyData) (ds : List PyData), Dp K H x d ∧ Dp K H y (.tuple ds) ∧ SeqAt.shaped d = true ∧ SeqAt.shaped (.tuple ds) = true ∧ Q (.bl (ds.any fun y => PyData.eqv y d)) H
section
variable {X : Cx}
theorem op_inT (hu : X.A.units + 65 < cLine) : OpR X (compareOp .In) (rInT X.K) := by
  intro pins s σ H x y v u Q I rx ry h
  obtain ⟨d, ds, hd, he, sd, se, q⟩ := h
  obtain ⟨as, r1⟩ := Dp.reads I d x v hd rx
  obtain ⟨bs, r2⟩ := Dp.reads I (.tuple ds) y u he ry
  exact SeqAt.in_tuple_reads r2 r1 (SeqAt.canLay_of_shaped se) (SeqAt.canLay_of_shaped sd) (room_in_shaped sd hu) ⟨.bl _, H, I, rfl, q⟩
end
theorem shaped_of {d : PyData} (h : d.canLay0 = true) (h' : d.depth ≤ 64) : SeqAt.shaped d = true := by
  show (d.canLay0 && decide (d.depth ≤ 64)) = true
  rw [h, decide_eq_true h']
  rfl
def spNumber : Sp := fun vs H Q _ => ∃ (b : Addr) (v : V) (d : PyData), vs = [v] ∧ DAt H b v d ∧ Q (.bl (isNum d)) H
def isVar : PyData → Bool | .int n => decide (0 ≤ n) && decide (n ≤ 99) | _ => false
def spVariable : Sp := fun vs H Q _ => ∃ (b : Addr) (v : V) (d : PyData), vs = [v] ∧ DAt H b v d ∧ Q (.bl (isVar d)) H
def spShape : Sp := fun vs H Q _ => ∃ (b : Addr) (v : V) (d : PyData), vs = [v] ∧ DAt H b v d ∧ okD d ∧ ∀ (r : Bool) (H' : Hp), (r = true ↔ Shaped d) → Same H H' → Q (.bl r) H'
section
variable {P : Program} {w : World} {K : PySem.W.Frag} {mg : Str → Option Value} {base : Heap}
theorem scNumber : FnScope ["thing"] ["thing"] (defScope sNumber) := ⟨rfl, rfl, rfl, by decide +kernel, rfl, by decide +kernel, by decide +kernel⟩
theorem ok_number {f : Addr} {fd : FuncData} (F : Fun K "is_number" "is_number" sNumber f fd) (M : SameG mg) : FnOk P w K mg base CX0 1 f fd ["thing"] spNumber := by
  refine F.ok scNumber (fun vs H Q E h => ?_) (fun cdv A outer s H vs Q E hr h => ?_)
  · obtain ⟨b, v, d, rfl, _⟩ := h
    rfl
  obtain ⟨b, v, d, rfl, D, q⟩ := h
  refine ⟨_, pss_one (ps_ret (pe_and (pe_callB (id := "isinstance") call_isi (by rfl) M.isi (by decide +kernel) (pa_cons (pv 0) (pa_cons (pe_bltn (v := .ty "int") (by rfl) M.int (by decide +kernel) rfl) pa_nil)))
    (pe_one (pe_not (pe_callB (id := "isinstance") call_isi (by rfl) M.isi (by decide +kernel) (pa_cons (pv 0) (pa_cons (pe_bltn (v := .ty "bool") (by rfl) M.bool (by decide +kernel) rfl) pa_nil))))))), ?_⟩
  refine ⟨_, rfl, _, _, _, _, isI d, rfl, .ty "int", D.tyx, kitI d, isI d, rfl, ?_⟩
  have second : (fun (σ : L2.St) => isI d = true → isB d = !(isNum d)) [] := by cases d <;> simp [isI, isB, isNum]
  have first : isI d = false → isNum d = false := by cases d <;> simp [isI, isNum]
  cases e : isI d with
  | false => exact iteF (by have z := first e; rw [z] at q; exact q)
  | true =>
    refine iteT ⟨_, rfl, _, _, _, _, isB d, rfl, .ty "bool", D.tyx, kitB' d, isB d, rfl, ?_⟩
    have z := second e
    rw [z]
    simpa using q
theorem scVariable : FnScope ["thing"] ["thing"] (defScope sVariable) := ⟨rfl, rfl, rfl, by decide +kernel, rfl, by decide +kernel, by decide +kernel⟩
theorem ok_variable {f fN : Addr} {fd fdN : FuncData} {tk : Tok} (F : Fun K "is_variable" "is_variable" sVariable f fd) (GN : FnOk P w K mg base CX0 1 fN fdN ["thing"] spNumber) (kN : PySem.W.keepIn K (.ref fN) = true) (bN : Binds K fdN ["thing"] []) (mN : mg "is_number" = some (.ref fN))
    (mLast : mg "LAST_VARIABLE" = some (.int 99 tk)) : FnOk P w K mg base CX0 2 f fd ["thing"] spVariable := by
  refine F.ok scVariable (fun vs H Q E h => ?_) (fun cdv A outer s H vs Q E hr h => ?_)
  · obtain ⟨b, v, d, rfl, _⟩ := h
    rfl
  obtain ⟨b, v, d, rfl, D, q⟩ := h
  refine ⟨_, pss_one (ps_ret (pe_and (pe_call GN hr rfl mN kN bN .nil pass0 (pa_cons (pv 0) pa_nil)) (pe_one (pe_chain op_le op_le pe_int (pv 0) (pe_glob (v := .int 99) rfl mLast ⟨_, rfl⟩))))), ?_⟩
  refine ⟨_, rfl, b, v, d, rfl, D, isNum d, rfl, ?_⟩
  cases d with
  | int n =>
    have ev := D.int_of
    subst ev
    refine iteT ⟨_, rfl, _, _, rfl, rfl, decide (0 ≤ n), rfl, ?_⟩
    cases e : decide (0 ≤ n) with
    | false => exact iteF (by simpa [isVar, e] using q)
    | true => exact iteT ⟨_, _, rfl, rfl, by simpa [isVar, e] using q⟩
  | _ => exact iteF q
theorem scShape : FnScope ["thing"] ["thing"] (defScope sShape) := ⟨rfl, rfl, rfl, by decide +kernel, rfl, by decide +kernel, by decide +kernel⟩
theorem ok_shape {f aS : Addr} {fd : FuncData} (F : Fun K "_has_shape" "_has_shape" sShape f fd) (M : SameG mg) (mS : mg "SHAPES" = some (.ref aS)) (hS : ∀ H, Dp K H (.ref aS) shapesD) : FnOk P w K mg base CX0 1 f fd ["thing"] spShape := by
  refine F.ok scShape (fun vs H Q E h => ?_) (fun cdv A outer s H vs Q E hr h => ?_)
  · obtain ⟨b, v, d, rfl, _⟩ := h
    rfl
  obtain ⟨b, v, d, rfl, D, ok, q⟩ := h
  refine ⟨_, pss_cons (ps_if (PW.pt (pw_or (pt_not (pt_val (pe_callB (id := "isinstance") call_isi (by rfl) M.isi (by decide +kernel) (pa_cons (pv 0) (pa_cons (pe_bltn (v := .ty "tuple") (by rfl) M.tuple (by decide +kernel) rfl) pa_nil)))))
      (pw_or1 (pt_not (pt_truth (pv 0) (by intro _; rfl)))))) (pss_one (ps_ret pe_bl)) pss_nil)
    (pss_one (ps_ret (pe_cmpR (op_inT (hu65 hr)) (pe_tup (pa_cons (pe_ix ix_tup (pv 0) pe_int (fun _ _ => rfl)) (pa_cons (pe_callB call_len_seq (by rfl) M.len PySem.boot_len (pa_cons (pv 0) pa_nil)) pa_nil))) (pe_glob (v := .ref aS) rfl mS rfl) (by rfl)))), ?_⟩
  refine ⟨_, rfl, _, _, _, _, isU d, rfl, .ty "tuple", D.tyx, kitU d, isU d, rfl, ?_⟩
  cases d with
  | tuple ds =>
    obtain ⟨a, xs, rfl, ha, A'⟩ := D.tup_of
    refine iteF ⟨_, rfl, !xs.isEmpty, .inr (.inl ⟨xs, .inl (.inl ha), rfl⟩), ?_⟩
    cases xs with
    | nil =>
      refine iteT (q false H ⟨(fun e => nomatch e), ?_⟩ (Same.refl H))
      rintro ⟨x, ds', e, _⟩
      injection e with e
      subst e
      have := A'.len
      simp at this
    | cons x0 xr =>
      obtain ⟨d0, dr, rfl, D0, Dr⟩ := A'.head
      have el := Dr.len
      refine iteF ⟨_, rfl, a, _, _, _, rfl, rfl, .inl (.inl ha), at_of (j := 0) rfl rfl, _, rfl, a, _, rfl, .inr (.inl (.inl ha)), (by show 2 ≤ sizeLine; decide), fun p hp => ?_⟩
      have s1 := same_new hp (.tup [x0, .int (((x0 :: xr).length : Nat) : Int)])
      have o0 := ok.tup d0 (by simp)
      refine ⟨.tuple [d0, .int ((dr.length + 1 : Nat) : Int)], shapesL, .tup (.inl (.inl upd_same)) (.cons (D0.same s1).dp (.cons ?_ .nil)), hS _, ?_, by decide +kernel, ?_⟩
      · rw [List.length_cons, el]; exact .int _
      · refine shaped_of ?_ ?_
        · simp [PyData.canLay0, PyData.canLayAll0, o0.1]
        · have := o0.2
          simp only [PyData.depth, PyData.depthAll]
          omega
      · exact q _ _ shapes_any s1
  | _ => exact iteT (q false H ⟨(fun e => nomatch e), (fun ⟨x, ds', e, _⟩ => nomatch e)⟩ (Same.refl H))
end
end Rp

/-! Data of small ints and a few short texts: how large they are, what is said of them. -/
namespace Rp
open PySem PySem.Spec PyProof.Rows L2
def okText (x : Str) : Prop := x = "" ∨ x = "0" ∨ x = "s" ∨ x = "f" ∨ x = "x" ∨ x = "g" ∨ x = "x0"
mutual
def fine (U : List Int) : PyData → Prop
  | .none => True | .bool _ => True | .int i => i ∈ U | .str x => okText x | .list ds => fineAll U ds | .tuple ds => fineAll U ds | .dict _ => False
def fineAll (U : List Int) : List PyData → Prop
  | [] => True
  | d :: ds => fine U d ∧ fineAll U ds
end
mutual
def nd : PyData → Nat
  | .list ds => ndAll ds + 1 | .tuple ds => ndAll ds + 1 | _ => 1
def ndAll : List PyData → Nat
  | [] => 0
  | d :: ds => nd d + ndAll ds
end
theorem nd_pos (d : PyData) : 1 ≤ nd d := by cases d <;> simp [nd]
theorem ndAll_append : ∀ a b : List PyData, ndAll (a ++ b) = ndAll a + ndAll b
  | [], b => by simp [ndAll]
  | x :: a, b => by simp only [List.cons_append, ndAll, ndAll_append a b]; omega
theorem ndAll_mem : ∀ {ds : List PyData} {d : PyData}, d ∈ ds → nd d ≤ ndAll ds
  | x :: ds, d, h => by
    simp only [ndAll]
    rcases List.mem_cons.mp h with rfl | h
    · omega
    · have := ndAll_mem h; omega
theorem ndAll_len : ∀ ds : List PyData, ds.length ≤ ndAll ds
  | [] => Nat.le_refl _
  | d :: ds => by have := ndAll_len ds; have := nd_pos d; simp only [ndAll, List.length_cons]; omega
theorem fineAll_iff {U : List Int} : ∀ {ds : List PyData}, fineAll U ds ↔ ∀ d ∈ ds, fine U d
  | [] => by simp [fineAll]
  | d :: ds => by simp only [fineAll, fineAll_iff (ds := ds), List.forall_mem_cons]
theorem depthAll_iff {k : Nat} : ∀ {ds : List PyData}, PyData.depthAll ds ≤ k ↔ ∀ d ∈ ds, d.depth ≤ k
  | [] => by simp [PyData.depthAll]
  | d :: ds => by simp only [PyData.depthAll, List.forall_mem_cons, ← depthAll_iff (ds := ds)]; omega
theorem okText_lay {x : Str} (h : okText x) : PyData.canLay0 (.str x) = true ∧ x.cps.size ≤ 2 := by
  rcases h with rfl | rfl | rfl | rfl | rfl | rfl | rfl <;> exact ⟨by decide +kernel, by decide +kernel⟩
/-- the few ints of a row of data -/
structure Few (U : List Int) : Prop where
  le : ∀ i ∈ U, -1 ≤ i ∧ i ≤ 100
  len : U.length ≤ 200
mutual
theorem fine_lay {U : List Int} (hU : Few U) : ∀ d : PyData, fine U d → d.canLay0 = true ∧ d.showable = true ∧ d.intsShort 13 = true ∧ d.hasDict = false ∧ d.weight + 1 ≤ 110 * nd d
  | .none, _ => ⟨rfl, rfl, rfl, rfl, by decide⟩
  | .bool b, _ => ⟨rfl, rfl, rfl, rfl, by simp [PyData.weight, nd]⟩
  | .int i, h => by
    have h : -1 ≤ i ∧ i ≤ 100 := hU.le i h
    have a : i.natAbs ≤ 100 := by omega
    have b := Nat.log2_le_self i.natAbs
    refine ⟨rfl, ?_, ?_, rfl, ?_⟩
    · simp only [PyData.showable, decide_eq_true_eq]; omega
    · simp only [PyData.intsShort, decide_eq_true_eq]; exact PyData.shown_int_le (by omega)
    · simp only [PyData.weight, nd]; split <;> omega
  | .str x, h => by
    have z := okText_lay h
    refine ⟨z.1, rfl, rfl, rfl, ?_⟩
    simp only [PyData.weight, nd]
    omega
  | .list ds, h => by
    have z := fine_layAll hU ds h
    simp only [PyData.canLay0, PyData.showable, PyData.intsShort, PyData.hasDict, PyData.weight, nd]
    refine ⟨z.1, z.2.1, z.2.2.1, z.2.2.2.1, by omega⟩
  | .tuple ds, h => by
    have z := fine_layAll hU ds h
    simp only [PyData.canLay0, PyData.showable, PyData.intsShort, PyData.hasDict, PyData.weight, nd]
    refine ⟨z.1, z.2.1, z.2.2.1, z.2.2.2.1, by omega⟩
  | .dict _, h => h.elim
theorem fine_layAll {U : List Int} (hU : Few U) : ∀ ds : List PyData, fineAll U ds → PyData.canLayAll0 ds = true ∧ PyData.showableAll ds = true ∧ PyData.intsShortAll 13 ds = true ∧ PyData.hasDictAll ds = false ∧ PyData.weightAll ds ≤ 110 * ndAll ds
  | [], _ => ⟨rfl, rfl, rfl, rfl, by decide⟩
  | d :: ds, h => by
    have h : fine U d ∧ fineAll U ds := h
    have a := fine_lay hU d h.1
    have b := fine_layAll hU ds h.2
    simp only [PyData.canLayAll0, PyData.showableAll, PyData.intsShortAll, PyData.hasDictAll, PyData.weightAll, ndAll, Bool.and_eq_true, Bool.or_eq_false_iff]
    exact ⟨⟨a.1, b.1⟩, ⟨a.2.1, b.2.1⟩, ⟨a.2.2.1, b.2.2.1⟩, ⟨a.2.2.2.1, b.2.2.2.1⟩, by omega⟩
end
/-- fine, of at most n nodes, at most k deep -/
structure Good (U : List Int) (n k : Nat) (d : PyData) : Prop where
  fine : fine U d
  nd : nd d ≤ n
  dp : d.depth ≤ k
theorem Good.more {U : List Int} {n k n' k' : Nat} {d : PyData} (h : Good U n k d) (hn : n ≤ n') (hk : k ≤ k') : Good U n' k' d := ⟨h.fine, by have := h.nd; omega, by have := h.dp; omega⟩
theorem Good.ok {U : List Int} (hU : Few U) {n k : Nat} {d : PyData} (h : Good U n k d) (hk : k ≤ 60) : okD d := ⟨(fine_lay hU d h.fine).1, by have := h.dp; omega⟩
theorem Good.shown {U : List Int} (hU : Few U) {n k : Nat} {d : PyData} (h : Good U n k d) (hn : n ≤ 9000) (hk : k ≤ 60) : d.showable = true ∧ d.hasDict = false ∧ d.depth ≤ 64 ∧ d.shown.length ≤ 15728653 := by
  obtain ⟨h1, h2, h3, h4, h5⟩ := fine_lay hU d h.fine
  have n1 := h.nd
  have k1 := h.dp
  refine ⟨h2, h4, by omega, shown_le13 ?_ h3⟩
  unfold PyData.layable0
  rw [h1, decide_eq_true (by omega : d.depth ≤ 64), decide_eq_true (by omega : d.weight ≤ 2 ^ 20)]
  rfl
theorem Good.tup {U : List Int} {n k : Nat} {ds : List PyData} (h : Good U n k (.tuple ds)) : (∀ d ∈ ds, Rp.fine U d) ∧ ndAll ds + 1 ≤ n ∧ ∀ d ∈ ds, d.depth + 1 ≤ k := by
  refine ⟨fineAll_iff.mp h.fine, by simpa [Rp.nd] using h.nd, fun d hd => ?_⟩
  have k1 : PyData.depthAll ds + 1 ≤ k := by simpa [PyData.depth] using h.dp
  have := depthAll_iff.mp (Nat.le_refl (PyData.depthAll ds)) d hd
  omega
theorem Good.lst {U : List Int} {n k : Nat} {ds : List PyData} (h : Good U n k (.list ds)) : (∀ d ∈ ds, Rp.fine U d) ∧ ndAll ds + 1 ≤ n ∧ ∀ d ∈ ds, d.depth + 1 ≤ k := by
  refine ⟨fineAll_iff.mp h.fine, by simpa [Rp.nd] using h.nd, fun d hd => ?_⟩
  have k1 : PyData.depthAll ds + 1 ≤ k := by simpa [PyData.depth] using h.dp
  have := depthAll_iff.mp (Nat.le_refl (PyData.depthAll ds)) d hd
  omega
theorem good_lst {U : List Int} {n k : Nat} {ds : List PyData} (h : ∀ d ∈ ds, fine U d) (hn : ndAll ds + 1 ≤ n) (hk : ∀ d ∈ ds, d.depth + 1 ≤ k) (k1 : 1 ≤ k) : Good U n k (.list ds) := by
  refine ⟨fineAll_iff.mpr h, by simpa [Rp.nd] using hn, ?_⟩
  have : PyData.depthAll ds ≤ k - 1 := depthAll_iff.mpr fun d hd => by have := hk d hd; omega
  simp only [PyData.depth]
  omega
theorem good_tup {U : List Int} {n k : Nat} {ds : List PyData} (h : ∀ d ∈ ds, fine U d) (hn : ndAll ds + 1 ≤ n) (hk : ∀ d ∈ ds, d.depth + 1 ≤ k) (k1 : 1 ≤ k) : Good U n k (.tuple ds) := by
  refine ⟨fineAll_iff.mpr h, by simpa [Rp.nd] using hn, ?_⟩
  have : PyData.depthAll ds ≤ k - 1 := depthAll_iff.mpr fun d hd => by have := hk d hd; omega
  simp only [PyData.depth]
  omega
/-- a TERM's data are good -/
theorem tm_good {U : List Int} : ∀ t : Tm, (∀ n ∈ t.nums, n ∈ U) → Good U (2 * t.size) (t.deep + 1) (tmD t)
  | .v n, h => ⟨h n (by simp [Tm.nums]), by simp [tmD, Rp.nd, Tm.size], by simp [tmD, PyData.depth]⟩
  | .z, _ => ⟨⟨.inr (.inl rfl), trivial⟩, by simp [tmD, Rp.nd, ndAll, Tm.size], by simp [tmD, PyData.depth, PyData.depthAll]⟩
  | .s t, h => by
    have g := tm_good t h
    have h1 := g.nd
    have h2 := g.dp
    unfold tmD
    refine good_tup (fun d hd => ?_) ?_ (fun d hd => ?_) (by omega)
    · simp at hd; rcases hd with rfl | rfl
      · exact .inr (.inr (.inl rfl))
      · exact g.fine
    · simp only [ndAll, Rp.nd, Tm.size]; omega
    · simp at hd; rcases hd with rfl | rfl
      · simp [PyData.depth, Tm.deep]
      · simp only [Tm.deep]; omega
  | .f l r, h => by
    have g := tm_good l fun n hn => h n (by simp [Tm.nums, hn])
    have g' := tm_good r fun n hn => h n (by simp [Tm.nums, hn])
    have h1 := g.nd
    have h2 := g.dp
    have h3 := g'.nd
    have h4 := g'.dp
    unfold tmD
    refine good_tup (fun d hd => ?_) ?_ (fun d hd => ?_) (by omega)
    · simp at hd; rcases hd with rfl | rfl | rfl
      · exact .inr (.inr (.inr (.inl rfl)))
      · exact g.fine
      · exact g'.fine
    · simp only [ndAll, Rp.nd, Tm.size]; omega
    · simp at hd; rcases hd with rfl | rfl | rfl
      · simp [PyData.depth, Tm.deep]
      · simp only [Tm.deep]; omega
      · simp only [Tm.deep]; omega
/-- ints of a TERM among the data's -/
theorem tm_fine {U : List Int} : ∀ t : Tm, fine U (tmD t) → ∀ n ∈ t.nums, n ∈ U
  | .v n, h, m, hm => by simp [Tm.nums] at hm; subst hm; exact h
  | .z, h, m, hm => by simp [Tm.nums] at hm
  | .s t, h, m, hm => tm_fine t h.2.1 m hm
  | .f l r, h, m, hm => by
    rcases List.mem_append.mp hm with q | q
    · exact tm_fine l h.2.1 m q
    · exact tm_fine r h.2.2.1 m q
theorem nodup_le : ∀ {L U : List Int}, L.Nodup → (∀ k ∈ L, k ∈ U) → L.length ≤ U.length
  | [], U, _, _ => Nat.zero_le _
  | x :: L, U, h, hs => by
    rw [List.nodup_cons] at h
    have hx := hs x (by simp)
    have := nodup_le (L := L) (U := U.erase x) h.2 fun k hk => (List.mem_erase_of_ne (fun e => h.1 (by rw [← e]; exact hk))).mpr (hs k (by simp [hk]))
    rw [List.length_erase_of_mem hx] at this
    have := List.length_pos_of_mem hx
    rw [List.length_cons]
    omega
/-- the other way: a TERM's data tell its size -/
theorem tm_size : ∀ t : Tm, t.size ≤ nd (tmD t) ∧ t.deep ≤ (tmD t).depth
  | .v n => ⟨by simp [tmD, nd, Tm.size], by simp [Tm.deep]⟩
  | .z => ⟨by simp [tmD, nd, Tm.size], by simp [Tm.deep]⟩
  | .s t => by
    have := tm_size t
    simp only [tmD, nd, ndAll, Tm.size, Tm.deep, PyData.depth, PyData.depthAll]
    omega
  | .f l r => by
    have := tm_size l
    have := tm_size r
    simp only [tmD, nd, ndAll, Tm.size, Tm.deep, PyData.depth, PyData.depthAll]
    omega
end Rp

namespace Rp
open PySem PySem.Spec PyProof.Rows L2
def spTerm : Sp := fun vs H Q _ => ∃ (b : Addr) (v : V) (d : PyData), vs = [v] ∧ DAt H b v d ∧ okD d ∧ nd d ≤ 1000 ∧ ∀ (r : Bool) (H' : Hp), (r = true ↔ IsT d) → Same H H' → Q (.bl r) H'
theorem isVar_iff {d : PyData} (h : ¬ Shaped d) : isVar d = true ↔ IsT d := by
  cases d with
  | int n => rw [isT_int]; simp [isVar]
  | _ => exact ⟨fun e => by simp [isVar] at e, fun e => absurd e (isT_other h fun n z => by cases z)⟩
section
variable {P : Program} {w : World} {K : PySem.W.Frag} {mg : Str → Option Value} {base : Heap}
theorem scTerm : FnScope ["thing", "todo", "part"] ["thing"] (defScope sTerm) := ⟨rfl, rfl, rfl, by decide +kernel, rfl, by decide +kernel, by decide +kernel⟩
theorem ok_term {f fS fV : Addr} {fd dS dV : FuncData} (F : Fun K "is_term" "is_term" sTerm f fd)
    (GS : FnOk P w K mg base CX0 1 fS dS ["thing"] spShape) (kS : PySem.W.keepIn K (.ref fS) = true) (bS : Binds K dS ["thing"] []) (mS : mg "_has_shape" = some (.ref fS))
    (GV : FnOk P w K mg base CX0 2 fV dV ["thing"] spVariable) (kV : PySem.W.keepIn K (.ref fV) = true) (bV : Binds K dV ["thing"] []) (mV : mg "is_variable" = some (.ref fV)) :
    FnOk P w K mg base CX0 3 f fd ["thing"] spTerm := by
  refine F.ok scTerm (fun vs H Q E h => ?_) (fun cdv A outer s H vs Q E hr h => ?_)
  · obtain ⟨b, v, d, rfl, _⟩ := h
    rfl
  obtain ⟨b, v, d, rfl, D, ok, hn, q⟩ := h
  have r1 : Room 1 _ := hr.mono (by decide)
  refine ⟨_, pss_cons (ps_set (i := 1) scTerm.nd rfl (Or.inl rfl) (pe_lst (pa_cons (pv 0) pa_nil)))
    (pss_cons (ps_while PassesOwn.never (pt_truth (pv 1) (by intro _; rfl))
      (pss_cons (ps_set (i := 2) scTerm.nd rfl (Or.inl rfl) (pe_bm0 PySem.F.plainAttrs_list PySem.F.slot_list_pop PySem.F.type_list_pop mt_pop (pv 1)))
      (pss_one (ps_if (pt_val (pe_call GS r1 rfl mS kS bS .nil pass0 (pa_cons (pv 2) pa_nil)))
        (pss_one (ps_expr (pe_bm PySem.F.plainAttrs_list PySem.F.slot_list_extend PySem.F.type_list_extend mt_extendT (pv 1) (pa_cons (pe_slice sl_tup (pv 2) (po_some pe_int) po_none) pa_nil))))
        (pss_one (ps_if (pt_not (pt_val (pe_call GV hr rfl mV kV bV .nil pass0 (pa_cons (pv 2) pa_nil)))) (pss_one (ps_ret pe_bl)) pss_nil))))))
    (pss_one (ps_ret pe_bl))), ?_⟩
  refine ⟨_, rfl, (by show 1 ≤ sizeLine; decide), fun p hp => ?_⟩
  have s1 := same_new hp (.lst [v])
  dsimp only [gName, tSeq]
  refine ⟨fun m σ H2 => ∃ (txs : List V) (ds : List PyData) (x : Option V), σ = [some v, some (.ref p), x] ∧ H2 p = some (.lst txs) ∧ DAtAll H b txs ds ∧ (IsT d ↔ ∀ e ∈ ds, IsT e) ∧ (∀ e ∈ ds, okD e) ∧ ndAll ds ≤ 1000 ∧ m = ndAll ds ∧ Same H H2,
    ⟨nd d, [v], [d], none, rfl, upd_same, .cons D .nil, by simp, by simpa using ok, by simp [ndAll]; exact hn, by simp [ndAll], s1⟩, ?_⟩
  rintro m σ H2 ⟨txs, ds, x, rfl, h2, A1, iff, oks, few, rfl, sH⟩
  refine ⟨_, rfl, !txs.isEmpty, .inl ⟨txs, .inl (.inl h2), rfl⟩, ?_⟩
  rcases List.eq_nil_or_concat txs with e | ⟨M, y, e⟩
  · subst e
    refine iteF ?_
    have e2 : ds = [] := by have := A1.len; cases ds with | nil => rfl | cons => simp at this
    subst e2
    exact q true H2 ⟨fun _ => iff.mpr (by simp), fun _ => rfl⟩ sH
  · rw [List.concat_eq_append] at e
    subst e
    have ne : (!(M ++ [y]).isEmpty) = true := by simp
    rw [ne]
    refine iteT ⟨_, fun _ _ h => h, ?_⟩
    obtain ⟨L, k', e2, AM, Ay⟩ := A1.parted
    subst e2
    obtain ⟨k, rest, rfl, Dk, Ar⟩ := Ay.head
    obtain rfl : rest = [] := by have := Ar.len; cases rest with | nil => rfl | cons => simp at this
    have okk : okD k := oks k (by simp)
    have ilast : IsT d ↔ (∀ e ∈ L, IsT e) ∧ IsT k := by
      rw [iff]
      constructor
      · intro h; exact ⟨fun e he => h e (by simp [he]), h k (by simp)⟩
      · intro h e he
        rcases List.mem_append.mp he with he | he
        · exact h.1 e he
        · simp at he; subst he; exact h.2
    rw [ndAll_append] at few
    -- part = todo.pop()
    refine ⟨_, rfl, .inl ⟨rfl, _, .inl (.inl h2)⟩, p, _, y, rfl, rfl, h2, by simp, ?_⟩
    rw [List.dropLast_concat]
    have pn : H p = none := hp
    have s3 : Same H (upd H2 p (.lst M)) := fun c o z => by rw [upd_ne (ne_of_none z pn)]; exact sH c o z
    have nk : ndAll [k] = nd k := by simp [ndAll]
    refine ⟨_, rfl, b, y, k, rfl, Dk.same s3, okk, fun r H4 hr4 s4 => ?_⟩
    have h4 := s4 _ _ (upd_same : (upd H2 p (.lst M)) p = some (.lst M))
    have sH4 : Same H H4 := s3.trans s4
    cases r with
    | true =>
      refine ⟨true, rfl, iteT ?_⟩
      obtain ⟨sg, ds', rfl, sh⟩ := hr4.mp rfl
      obtain ⟨a, xs, rfl, ha, Ak⟩ := Dk.tup_of
      obtain ⟨x0, ks, rfl, D0, Dks⟩ := Ak.cons_of
      have nks : nd (PyData.tuple (.str sg :: ds')) = ndAll ds' + 2 := by simp [nd, ndAll]; omega
      refine ⟨_, rfl, .inl ⟨rfl, M, .inl (.inl h4)⟩, _, rfl, 1, rfl, a, _, rfl, .inl (.inl (sH4 _ _ ha)), cut_part _ _, fun g hg => ?_⟩
      rw [cut_tail]
      have s5 := same_new hg (.tup ks)
      have lim : M.length + ks.length ≤ sizeLine := by
        have a1 := AM.len
        have a2 := Dks.len
        have a3 := ndAll_len L
        have a4 := ndAll_len ds'
        have a5 : (1000 : Nat) + 1000 ≤ sizeLine := by decide
        omega
      refine ⟨p, g, M, ks, rfl, rfl, s5 _ _ h4, .inl (.inl upd_same), lim, ?_⟩
      refine ⟨ndAll (L ++ ds'), ?_, M ++ ks, L ++ ds', _, rfl, upd_same, AM.append Dks, ?_, ?_, ?_, rfl, ?_⟩
      · rw [ndAll_append, ndAll_append]; omega
      · rw [ilast, isT_shaped sh]
        constructor
        · rintro ⟨h1, h2⟩ e he
          rcases List.mem_append.mp he with he | he
          · exact h1 e he
          · exact h2 e he
        · intro h
          exact ⟨fun e he => h e (by simp [he]), fun e he => h e (by simp [he])⟩
      · intro e he
        rcases List.mem_append.mp he with he | he
        · exact oks e (by simp [he])
        · exact okk.tup e (by simp [he])
      · rw [ndAll_append]; omega
      · intro c o z
        rw [upd_ne (ne_of_none z pn)]
        exact s5 _ _ (sH4 _ _ z)
    | false =>
      refine ⟨false, rfl, iteF ?_⟩
      have ns : ¬ Shaped k := fun z => by have := hr4.mpr z; cases this
      refine ⟨_, rfl, b, y, k, rfl, Dk.same sH4, isVar k, rfl, ?_⟩
      cases ev : isVar k with
      | false =>
        refine iteT (q false H4 ⟨(fun e => nomatch e), fun z => ?_⟩ sH4)
        have := (isVar_iff ns).mpr (ilast.mp z).2
        rw [ev] at this
        cases this
      | true =>
        refine iteF ?_
        have tk := (isVar_iff ns).mp ev
        refine ⟨ndAll L, ?_, M, L, _, rfl, h4, AM, ?_, fun e he => oks e (by simp [he]), by omega, rfl, sH4⟩
        · rw [ndAll_append, nk]; have := nd_pos k; omega
        · rw [ilast]; exact ⟨fun h => h.1, fun h => ⟨h, tk⟩⟩
end
end Rp

/-! xs[a:] = ys, ys another list: what the layer has no statement of. -/
namespace Rp
open PySem PySem.Spec PyProof.Rows L2
theorem tail_bounds {k n : Nat} (h : k ≤ n) : sliceBounds (some (k : Int)) none none n = ((k : Int), (n : Int), 1) := by
  simp only [sliceBounds, Option.getD_none, show ¬ ((k : Int) < 0) by omega, if_false, show (1 : Int) > 0 by decide, if_true]
  congr 1
  · omega
theorem tail_items (old fresh : List Value) (k : Nat) : old.toArray.extract 0 k ++ fresh.toArray ++ old.toArray.extract old.toArray.size old.toArray.size = (old.take k ++ fresh).toArray := by
  apply Array.toList_inj.mp
  simp
section
variable {prog : Program} {w : World} {A : Around} {E : Value → Shared → Prop} {s : Shared}
theorem store_tail {at_ src cut : Addr} {old fresh : Array Value} {n1 n2 : Nat} {vlo : Value} {k : Nat} {Q : Unit → Shared → Prop} (oe : s.heap.get? at_ = some { cls := .type "list", data := .seq old n1 })
    (fe : s.heap.get? src = some { cls := .type "list", data := .seq fresh n2 }) (apart : at_ ≠ src) (isCut : s.heap.IsSliceOf cut vlo .none .none) (pLo : IsPart vlo (some (k : Int))) (hk : k ≤ old.size) (room : old.size + fresh.size ≤ sizeLine)
    (go : Q () { s with heap := s.heap.update at_ (Obj.mapSeq fun xs => xs.extract 0 k ++ fresh ++ xs.extract old.size xs.size) }) : wpAny (model prog w) A (setItem (.ref at_) (.ref cut) (.ref src)) Q E s := by
  have lstIs : s.heap.IsList at_ old := PySem.IsL.isList oe
  have srcIs : s.heap.IsList src fresh := PySem.IsL.isList fe
  obtain ⟨oc, hoc, hcc, hdc⟩ := id isCut
  have cutIs : s.TypeIs (.ref cut) "slice" := ⟨oc, hoc, hcc⟩
  have noStep : ¬ ((rawPart none == rawInt 0) = true) := Bool.false_ne_true
  have other : Builtin.List.listSameRef (.ref at_) (.ref src) = false := by unfold Builtin.List.listSameRef; exact beq_eq_false_iff_ne.mpr apart
  have bound : ((fun xs : Array Value => xs.extract 0 k ++ fresh ++ xs.extract old.size xs.size) old).size ≤ sizeLine + 1 := by simp only [Array.size_append, Array.size_extract]; omega
  unfold setItem; try with_reducible refine wpAny_holding ?_
  first | refine wpAny_bind (wpAny_pure ?_) | skip
  refine wpAny_bind (wpAny_sequenceKey lstIs.typeIs (by decide) (wpAny_bind (wpAny_callSpecial?_slot (name := Str.ofString "__setitem__") lstIs.typeIs slot_list_setitem (wpAny_call_entry slot_list_setitem lstIs.typeIs entry_list_setitem ?_ (args_list_setitem _ _ _)))))
  show wpAny _ _ (Builtin.List.listSubscript? (.ref cut) >>= _) _ _ s
  refine wpAny_bind ?_; unfold Builtin.List.listSubscript?
  refine wpAny_bind (wpAny_specialOf cutIs slice_no_index ?_); simp only [Option.isNone_none, if_true]
  refine wpAny_pure ?_; show wpAny _ _ (typeOf (.ref cut) >>= _) _ _ s
  refine wpAny_bind (wpAny_typeOf cutIs ?_)
  first | rw [if_neg (by decide)] | refine PySem.W.KFB.if_not (by decide) ?_
  rw [listSliceParts_eq]; refine wpAny_bind (wpAny_bind (wpAny_field hoc hdc (x := .none) rfl (wpAny_bind (wpAny_listPart .none ?_))))
  rw [if_neg noStep]; refine wpAny_bind (wpAny_field hoc hdc (x := vlo) rfl (wpAny_bind (wpAny_listPart pLo ?_)))
  refine wpAny_bind (wpAny_field hoc hdc (x := .none) rfl (wpAny_bind (wpAny_listPart .none (wpAny_pure ?_))))
  first | simp only [other, Bool.false_eq_true, if_false] | refine PySem.W.KFB.if_not other ?_ | (dsimp only; rw [if_neg (by rw [other]; exact Bool.false_ne_true)])
  refine wpAny_bind (m := Builtin.List.listAllItems (.ref src) "must assign iterable to extended slice") ?_; unfold Builtin.List.listAllItems
  refine wpAny_bind (wpAny_typeOf srcIs.typeIs ?_)
  first | refine PySem.W.KFB.if_so (by decide) ?_ | rw [if_pos (by decide)] | simp only [beq_self_eq_true, Bool.true_or, if_true]
  unfold Builtin.List.listItems; refine wpAny_bind (wpAny_seqItems fe rfl (wpAny_pure ?_))
  refine wpAny_bind (wpAny_bind (wpAny_seqItems oe rfl (wpAny_pure ?_)))
  refine wpAny_bind (wpAny_of_eq ((sliceIndices_raw (some (k : Int)) none none old.size (by simp)).trans (congrArg (pure : Int × Int × Int → Sem (Int × Int × Int)) (tail_bounds hk))) ?_)
  show wpAny _ _ (if ((1 : Int) == 1) = true then _ else _) _ _ s; rw [if_pos (by decide)]
  refine wpAny_bind (wpAny_rule ?_); have small := notLongL room
  first | simp only [small, Bool.false_eq_true, if_false] | refine PySem.W.KFB.if_not small ?_
  first | refine wpAny_bind (wpAny_pure ?_) | skip
  show wpAny _ _ (updateSeq at_ (fun xs => xs.extract 0 ((k : Int)).toNat ++ fresh ++ xs.extract (max (k : Int) (old.size : Int)).toNat xs.size) >>= _) _ _ s
  rw [show (max (k : Int) (old.size : Int)).toNat = old.size by omega, Int.toNat_natCast]
  refine wpAny_bind (wpAny_updateSeq (hz := Nat.le_trans (Nat.le_add_right _ _) room) (_hz' := bound) oe rfl (wpAny_bind (wpAny_letGo ?_)))
  first | exact wpAny_bind (wpAny_pure (wpAny_pure ⟨.none, rfl, wpAny_pure go⟩)) | exact wpAny_pure ⟨.none, rfl, wpAny_pure go⟩
end
/-- xs[a:] = ys -/
def tTail (to : TE) (ta : TO) (tv : TE) : TS := fun D σ H => tv σ H fun y H1 => to σ H1 fun x H2 => ta σ H2 fun i H3 => ∃ (l b : Addr) (xs ys : List V) (k : Nat), y = .ref b ∧ x = .ref l ∧ i = some (k : Int) ∧ H3 l = some (.lst xs) ∧ H3 b = some (.lst ys) ∧ l ≠ b ∧ k ≤ xs.length ∧ xs.length + ys.length ≤ sizeLine ∧
  D.nx σ (upd H3 l (.lst (xs.take k ++ ys)))
section
variable {X : Cx} {o e value : Expr} {pos pos' p2 : Pos} {td tv : TE} {ta : TO}
theorem ps_tail (ho : PE X o td) (hi : PO X (some e) ta) (hv : PE X value tv) (hs : swapsWith value (some (.Subscript o (.Slice (some e) none none p2) pos')) pos.line X.env = pure false := by rfl) :
    PS X (.Assign [.Subscript o (.Slice (some e) none none p2) pos'] value pos) (tTail td ta tv) := by
  refine ⟨fun pins s σ H D I h => wpAny_Assign_Subscript (thn (hv.run pins s σ H _ I h) fun r s1 ⟨v, H1, I1, rv, q1⟩ => thn (ho.run pins s1 σ H1 _ I1 q1) fun u s2 ⟨x, H2, I2, rx, q2⟩ => ?_) hs⟩
  refine wpAny_Slice (thn (hi.run pins s2 σ H2 _ I2 q2) fun vl s3 ⟨i, H3, I3, pl, q3⟩ => ?_)
  obtain ⟨l, b, xs, ys, k, rfl, rfl, rfl, hl, hb, ne, hk, room, go⟩ := q3
  rw [evalPart_none]
  refine wpAny_pure (wpAny_pure ?_)
  cases rv
  cases rx
  have I4 : Inv X pins σ H3 { s3 with heap := s3.heap.push { cls := .type "slice", data := .fields #[vl, .none, .none] } } := I3.kept (t' := s3.toks) fun c ob w => Heap.get?_push_of_some _ w
  obtain ⟨_, old, n1, ro, lo, oe⟩ := I4.lstM hl
  obtain ⟨_, fresh, n2, rf, lf, fe⟩ := I4.lstM hb
  refine store_tail (k := k) oe fe ne (Heap.IsSliceOf.new ..) pl (by rw [List.size_toArray]; omega) (by rw [List.size_toArray, List.size_toArray]; omega) ?_
  refine ⟨σ, _, I4.lset (its' := old.take k ++ fresh) (t' := s3.toks) hl oe ?_ (Vals.append (ro.take _) rf) ?_, go⟩
  · exact tail_items old fresh k
  · rw [List.length_append, List.length_take]; omega
end
end Rp

/-! Texts of TERMs, and the fold that makes them. -/
namespace Rp
open PySem PySem.Spec PyProof.Rows L2
namespace Tm
/-- a sign with the texts of its parts -/
def put1 : Tm → List Str → Str
  | v n, _ => "x" ++ (Str.ofString (toString n))
  | z, _ => "0"
  | s _, ys => "s" ++ "(" ++ Txt.join "," ys ++ ")"
  | f _ _, ys => "f" ++ "(" ++ Txt.join "," ys ++ ")"
def txt : Tm → Str
  | v n => put1 (v n) []
  | z => put1 z []
  | s t => put1 (s t) [t.txt]
  | f l r => put1 (f l r) [l.txt, r.txt]
theorem txt_kids (t : Tm) : t.txt = t.put1 (t.kids.map txt) := by cases t <;> rfl
def small (t : Tm) : Prop := ∀ n ∈ t.nums, 0 ≤ n ∧ n ≤ 99
end Tm
theorem slen (a b : Str) : (a ++ b).length = a.length + b.length := Str.length_append a b
theorem num_len {n : Int} (h : 0 ≤ n ∧ n ≤ 99) : (Str.ofString (toString n)).length ≤ 3 := by
  rw [PySem.ofString_length]
  exact int_text_length_le10 (k := 2) (by decide) (by omega)
theorem join1 (a x : Str) : Txt.join a [x] = x := by rw [TL.join_eq]; simp [Str.join]
theorem join2 (a x y : Str) : Txt.join a [x, y] = x ++ a ++ y := by rw [TL.join_eq]; simp [Str.join]
theorem txt_len : ∀ t : Tm, t.small → t.txt.length ≤ 4 * t.size
  | .v n, h => by
    have := num_len (h n (by simp [Tm.nums]))
    show (("x" : Str) ++ (Str.ofString (toString n))).length ≤ 4
    rw [slen]
    have : ("x" : Str).length = 1 := by decide +kernel
    omega
  | .z, _ => by decide +kernel
  | .s t, h => by
    have := txt_len t h
    show (("s" : Str) ++ "(" ++ Txt.join "," [t.txt] ++ ")").length ≤ 4 * (t.size + 1)
    rw [join1, slen, slen, slen]
    have a : ("s" : Str).length = 1 := by decide +kernel
    have b : ("(" : Str).length = 1 := by decide +kernel
    have c : (")" : Str).length = 1 := by decide +kernel
    omega
  | .f l r, h => by
    have := txt_len l fun n hn => h n (by simp [Tm.nums, hn])
    have := txt_len r fun n hn => h n (by simp [Tm.nums, hn])
    show (("f" : Str) ++ "(" ++ Txt.join "," [l.txt, r.txt] ++ ")").length ≤ 4 * (l.size + r.size + 1)
    rw [join2, slen, slen, slen, slen, slen]
    have a : ("f" : Str).length = 1 := by decide +kernel
    have b : ("(" : Str).length = 1 := by decide +kernel
    have c : (")" : Str).length = 1 := by decide +kernel
    have d : ("," : Str).length = 1 := by decide +kernel
    omega
/-! ### the stack -/
def runs : List Tm → List Tm → List Tm → Prop
  | S, [], S' => S = S'
  | S, k :: r, S' => ∃ S0, S = S0 ++ k.kids ∧ runs (S0 ++ [k]) r S'
theorem runs_post : ∀ (t : Tm) (S r S' : List Tm), runs (S ++ [t]) r S' → runs S (t.rpost.reverse ++ r) S'
  | .v n, S, r, S', h => by simp only [Tm.rpost, List.reverse_singleton, List.singleton_append]; exact ⟨S, by simp [Tm.kids], h⟩
  | .z, S, r, S', h => by simp only [Tm.rpost, List.reverse_singleton, List.singleton_append]; exact ⟨S, by simp [Tm.kids], h⟩
  | .s t, S, r, S', h => by
    simp only [Tm.rpost, List.reverse_cons, List.append_assoc, List.singleton_append]
    exact runs_post t S _ _ ⟨S, by simp [Tm.kids], h⟩
  | .f l r', S, r, S', h => by
    simp only [Tm.rpost, List.reverse_cons, List.reverse_append, List.append_assoc, List.singleton_append]
    refine runs_post l S _ _ (runs_post r' (S ++ [l]) _ _ ⟨S, by simp [Tm.kids], h⟩)
theorem part_of : ∀ {t k : Tm}, k ∈ t.rpost → k.size ≤ t.size ∧ ∀ n ∈ k.nums, n ∈ t.nums
  | .v n, k, h => by simp [Tm.rpost] at h; subst h; exact ⟨Nat.le_refl _, fun n h => h⟩
  | .z, k, h => by simp [Tm.rpost] at h; subst h; exact ⟨Nat.le_refl _, fun n h => h⟩
  | .s t, k, h => by
    simp [Tm.rpost] at h
    rcases h with rfl | h
    · exact ⟨Nat.le_refl _, fun n h => h⟩
    · have := part_of h
      exact ⟨by simp only [Tm.size]; omega, this.2⟩
  | .f l r, k, h => by
    simp [Tm.rpost] at h
    rcases h with rfl | h | h
    · exact ⟨Nat.le_refl _, fun n h => h⟩
    · have := part_of h
      exact ⟨by simp only [Tm.size]; omega, fun n hn => List.mem_append.mpr (.inr (this.2 n hn))⟩
    · have := part_of h
      exact ⟨by simp only [Tm.size]; omega, fun n hn => List.mem_append.mpr (.inl (this.2 n hn))⟩
def spTextOf (K : PySem.W.Frag) : Sp := fun vs H Q _ => ∃ (v : V) (t : Tm) (a : Addr), vs = [v, .ref a] ∧ TmAt H v t ∧ t.small ∧ t.size ≤ 1000 ∧ H a = some (.lst ((t.kids.map Tm.txt).map V.str)) ∧ Q (.str t.txt) H
def spFold (fO : Addr) : Sp := fun vs H Q _ => ∃ (v : V) (t : Tm), vs = [v, .ref fO] ∧ TmAt H v t ∧ t.small ∧ t.size ≤ 1000 ∧ ∀ H', Same H H' → Q (.str t.txt) H'
def spTermText : Sp := fun vs H Q _ => ∃ (v : V) (t : Tm), vs = [v] ∧ TmAt H v t ∧ t.small ∧ t.size ≤ 1000 ∧ ∀ H', Same H H' → Q (.str t.txt) H'
section
variable {P : Program} {w : World} {K : PySem.W.Frag} {mg : Str → Option Value} {base : Heap}
theorem scTextOf : FnScope ["part", "texts", "inner"] ["part", "texts"] (defScope sTextOf) := ⟨rfl, rfl, rfl, by decide +kernel, rfl, by decide +kernel, by decide +kernel⟩
theorem ok_textof {f : Addr} {fd : FuncData} (F : Fun K "_text_of" "_text_of" sTextOf f fd) (mIsi : mg "isinstance" = none) (mInt : mg "int" = none) : FnOk P w K mg base CX0 1 f fd ["part", "texts"] (spTextOf K) := by
  refine F.ok scTextOf (fun vs H Q E h => ?_) (fun cdv A outer s H vs Q E hr h => ?_)
  · obtain ⟨v, t, a, rfl, _⟩ := h
    rfl
  obtain ⟨v, t, a, rfl, T, sm, sz, ha, q⟩ := h
  refine ⟨_, pss_cons (ps_if (pt_val (pe_callB (id := "isinstance") call_isi (by rfl) mIsi (by decide +kernel) (pa_cons (pv 0) (pa_cons (pe_bltn (v := .ty "int") (by rfl) mInt (by decide +kernel) rfl) pa_nil)))) (pss_one (ps_ret (pe_joined (.cons pe_str (.cons (pe_fmt (pv 0)) .nil))))) pss_nil)
    (pss_cons (ps_if (pt_not (pt_truth (pv 1) (by intro _; rfl))) (pss_one (ps_ret (pe_ix ix_tup (pv 0) pe_int (fun _ _ => rfl)))) pss_nil)
    (pss_cons (ps_set (i := 2) scTextOf.nd rfl (Or.inl rfl) (pe_bm PySem.F.plainAttrs_str PySem.F.slot_str_join PySem.F.type_str_join mt_join pe_str (pa_cons (pv 1) pa_nil)))
    (pss_one (ps_ret (pe_joined (.cons (pe_fmt (pe_ix ix_tup (pv 0) pe_int (fun _ _ => rfl))) (.cons pe_str (.cons (pe_fmt (pv 2)) (.cons pe_str .nil))))))))), ?_⟩
  have tl := txt_len t sm
  have big : (10000 : Nat) ≤ sizeLine := by decide
  rcases T.ty (K := K) with ⟨m, rfl, rfl⟩ | ⟨b, xs, rfl, hb, ty, no⟩
  · refine ⟨_, rfl, _, _, _, _, true, rfl, .ty "int", .base (.int m), kit_ii, true, rfl, iteT ?_⟩
    have hm := sm m (by simp [Tm.nums])
    refine ⟨_, rfl, ?_, _, rfl, .inr ⟨m, rfl, ?_, ?_⟩⟩
    · rw [Str.empty_append]; exact Nat.le_trans (by decide +kernel : ("x" : Str).length ≤ 10) (by decide)
    · have := Nat.log2_le_self m.natAbs
      omega
    · refine ⟨_, rfl, ?_, ?_⟩
      · rw [Str.empty_append, slen]
        have := num_len hm
        have : ("x" : Str).length = 1 := by decide +kernel
        exact Nat.le_trans (by omega : _ ≤ 10) (by decide)
      · rw [Str.empty_append]
        exact q
  · obtain ⟨a', ks, e, ha', hk, hks⟩ := T.tupled no
    cases e
    refine ⟨_, rfl, _, _, _, _, false, rfl, .ty "int", ty, kit_ti, false, rfl, iteF ?_⟩
    refine ⟨_, rfl, _, .inl ⟨_, .inl (.inl ha), rfl⟩, ?_⟩
    have lim : ∀ x : Str, x.length ≤ 10000 → x.length ≤ sizeLine := fun x h => Nat.le_trans h big
    have l1 : ("s" : Str).length = 1 := by decide +kernel
    have l2 : ("f" : Str).length = 1 := by decide +kernel
    have l3 : ("(" : Str).length = 1 := by decide +kernel
    have l4 : (")" : Str).length = 1 := by decide +kernel
    have l5 : ("," : Str).length = 1 := by decide +kernel
    cases t with
    | v n => exact absurd rfl (no n)
    | z =>
      refine iteT ⟨_, rfl, _, _, _, _, rfl, rfl, .inl (.inl ha'), at_of (j := 0) rfl rfl, q⟩
    | s t =>
      have tz : (Txt.join "," [t.txt]).length ≤ 9000 := by
        rw [join1]; have := txt_len t sm; simp only [Tm.size] at sz; omega
      refine iteF ⟨rfl, _, rfl, _, a, [t.txt], rfl, rfl, .inl (.inl (.inl ha)), ?_, ?_⟩
      · simp only [List.map_cons, List.map_nil, List.sum_cons, List.sum_nil, List.length_cons, List.length_nil]
        have := txt_len t sm; simp only [Tm.size] at sz; omega
      refine ⟨_, rfl, _, _, _, _, rfl, rfl, .inl (.inl ha'), at_of (j := 0) rfl rfl, .inl ⟨_, rfl, lim _ ?_, _, rfl, lim _ ?_, _, rfl, lim _ ?_, _, rfl, .inl ⟨_, rfl, lim _ ?_, _, rfl, lim _ ?_, _, rfl, lim _ ?_, ?_⟩⟩⟩
      · show ("s" : Str).length ≤ _; omega
      · show (Str.empty ++ ("s" : Str)).length ≤ _; rw [Str.empty_append]; omega
      · show (Str.empty ++ ("s" : Str) ++ "(").length ≤ _; rw [Str.empty_append, slen]; omega
      · omega
      · show (Str.empty ++ ("s" : Str) ++ "(" ++ Txt.join "," [t.txt]).length ≤ _; rw [Str.empty_append, slen, slen]; omega
      · show (Str.empty ++ ("s" : Str) ++ "(" ++ Txt.join "," [t.txt] ++ ")").length ≤ _; rw [Str.empty_append, slen, slen, slen]; omega
      · show Q (.str (Str.empty ++ ("s" : Str) ++ "(" ++ Txt.join "," [t.txt] ++ ")")) H; rw [Str.empty_append]; exact q
    | f l r =>
      have tz : (Txt.join "," [l.txt, r.txt]).length ≤ 9000 := by
        rw [join2, slen, slen]; have := txt_len l (fun n hn => sm n (by simp [Tm.nums, hn])); have := txt_len r (fun n hn => sm n (by simp [Tm.nums, hn])); simp only [Tm.size] at sz; omega
      refine iteF ⟨rfl, _, rfl, _, a, [l.txt, r.txt], rfl, rfl, .inl (.inl (.inl ha)), ?_, ?_⟩
      · simp only [List.map_cons, List.map_nil, List.sum_cons, List.sum_nil, List.length_cons, List.length_nil]
        have := txt_len l (fun n hn => sm n (by simp [Tm.nums, hn])); have := txt_len r (fun n hn => sm n (by simp [Tm.nums, hn])); simp only [Tm.size] at sz; omega
      refine ⟨_, rfl, _, _, _, _, rfl, rfl, .inl (.inl ha'), at_of (j := 0) rfl rfl, .inl ⟨_, rfl, lim _ ?_, _, rfl, lim _ ?_, _, rfl, lim _ ?_, _, rfl, .inl ⟨_, rfl, lim _ ?_, _, rfl, lim _ ?_, _, rfl, lim _ ?_, ?_⟩⟩⟩
      · show ("f" : Str).length ≤ _; omega
      · show (Str.empty ++ ("f" : Str)).length ≤ _; rw [Str.empty_append]; omega
      · show (Str.empty ++ ("f" : Str) ++ "(").length ≤ _; rw [Str.empty_append, slen]; omega
      · omega
      · show (Str.empty ++ ("f" : Str) ++ "(" ++ Txt.join "," [l.txt, r.txt]).length ≤ _; rw [Str.empty_append, slen, slen]; omega
      · show (Str.empty ++ ("f" : Str) ++ "(" ++ Txt.join "," [l.txt, r.txt] ++ ")").length ≤ _; rw [Str.empty_append, slen, slen, slen]; omega
      · show Q (.str (Str.empty ++ ("f" : Str) ++ "(" ++ Txt.join "," [l.txt, r.txt] ++ ")")) H; rw [Str.empty_append]; exact q
end
end Rp

namespace Rp
open PySem PySem.Spec PyProof.Rows L2
theorem drop_min {α : Type} (xs : List α) (i : Nat) : xs.drop (min i xs.length) = xs.drop i := by
  rcases Nat.le_total i xs.length with h | h
  · rw [Nat.min_eq_left h]
  · rw [Nat.min_eq_right h, List.drop_length, List.drop_of_length_le h]
theorem cut_from {xs : List V} {i : Nat} {a : Int} (h : a = (i : Nat)) : cutV xs (some a) none = xs.drop i := by
  subst h
  unfold cutV
  rw [HT.sIx_none, HT.sIx_nat, drop_min]
  refine List.take_of_length_le ?_
  rw [List.length_drop]
  omega
section
variable {P : Program} {w : World} {K : PySem.W.Frag} {mg : Str → Option Value} {base : Heap}
theorem scFold : FnScope ["term", "made_of", "made", "part", "first"] ["term", "made_of"] (defScope sFold) := ⟨rfl, rfl, rfl, by decide +kernel, rfl, by decide +kernel, by decide +kernel⟩
theorem ok_fold {f fI fP fO : Addr} {fd dI dP dO : FuncData} (F : Fun K "fold" "fold" sFold f fd)
    (GI : FnOk P w K mg base CX0 2 fI dI ["term"] spInside) (kI : PySem.W.keepIn K (.ref fI) = true) (bI : Binds K dI ["term"] []) (mI : mg "inside_out" = some (.ref fI))
    (GP : FnOk P w K mg base CX0 1 fP dP ["term"] spParts) (kP : PySem.W.keepIn K (.ref fP) = true) (bP : Binds K dP ["term"] []) (mP : mg "_parts" = some (.ref fP))
    (GO : FnOk P w K mg base CX0 1 fO dO ["part", "texts"] (spTextOf K)) (kO : PySem.W.keepIn K (.ref fO) = true) (bO : Binds K dO ["part", "texts"] []) (mLen : mg "len" = none) :
    FnOk P w K mg base CX0 3 f fd ["term", "made_of"] (spFold fO) := by
  refine F.ok scFold (fun vs H Q E h => ?_) (fun cdv A outer s H vs Q E hr h => ?_)
  · obtain ⟨v, t, rfl, _⟩ := h
    rfl
  obtain ⟨v, t, rfl, T, sm, sz, q⟩ := h
  have r1 : Room 1 _ := hr.mono (by decide)
  refine ⟨_, pss_cons (ps_set (i := 2) scFold.nd rfl (Or.inl rfl) (pe_lst pa_nil))
    (pss_cons (ps_for PassesOwn.never rfl (pi_list (pe_call GI hr rfl mI kI bI .nil pass0 (pa_cons (pv 0) pa_nil))) (pg_name (i := 3) scFold.nd rfl (Or.inl rfl))
      (pss_cons (ps_set (i := 4) scFold.nd rfl (Or.inl rfl) (pe_op op_sub (pe_callB call_len_seq (by rfl) mLen PySem.boot_len (pa_cons (pv 2) pa_nil)) (pe_callB call_len_seq (by rfl) mLen PySem.boot_len (pa_cons (pe_call GP r1 rfl mP kP bP .nil pass0 (pa_cons (pv 3) pa_nil)) pa_nil))))
      (pss_one (ps_tail (pv 2) (po_some (pv 4)) (pe_lst (pa_cons (pe_callL (i := 1) GO r1 rfl (Or.inl rfl) kO bO .nil pass0 (pa_cons (pv 3) (pa_cons (pe_slice sl_list (pv 2) (po_some (pv 4)) po_none) pa_nil))) pa_nil))))))
    (pss_one (ps_ret (pe_ix ix_list (pv 2) pe_int (fun _ _ => rfl))))), ?_⟩
  refine ⟨(by show 0 ≤ sizeLine; decide), fun m hm => ?_⟩
  have s0 := same_new hm (.lst ([] : List V))
  refine ⟨_, rfl, v, t, rfl, T.same s0, sz, fun p xs H1 hp h1 A1 s1 => ?_⟩
  have hm1 := s1 _ _ (upd_same : (upd H m (.lst ([] : List V))) m = some (.lst []))
  have pm : p ≠ m := (ne_of_none (upd_same : (upd H m (.lst ([] : List V))) m = some (.lst [])) hp).symm
  have len := A1.len
  rw [List.length_reverse, Tm.rpost_len] at len
  have post : t.rpost.reverse.length = t.size := by rw [List.length_reverse, Tm.rpost_len]
  have big : (10000 : Nat) ≤ sizeLine := by decide
  refine ⟨p, rfl, ⟨_, .inl (.inl h1)⟩, for_list (K := K) (a := p) (xs := xs) (fun i σ H2 => ∃ (S : List Tm) (x3 x4 : Option V), σ = [some v, some (.ref fO), some (.ref m), x3, x4] ∧ H2 m = some (.lst ((S.map Tm.txt).map V.str)) ∧
      runs S (t.rpost.reverse.drop i) [t] ∧ (∀ k ∈ S, k ∈ t.rpost) ∧ S.length ≤ i ∧ But m H1 H2) ⟨[], none, none, rfl, hm1, ?_, by simp, by simp, But.refl _ _⟩ (fun i σ H2 _ ⟨_, _, _, _, _, _, _, _, o⟩ => .inl (.inl (o _ _ h1 pm))) ?_ ?_⟩
  · have := runs_post t [] [] [t] rfl
    simpa using this
  · rintro i x σ H2 hi ⟨S, x3, x4, rfl, h2, run, parts, sl, o2⟩
    obtain ⟨k, hk, Tk⟩ := A1.get hi
    have li : i < t.rpost.reverse.length := (List.getElem?_eq_some_iff.mp hk).1
    have ek : t.rpost.reverse.drop i = k :: t.rpost.reverse.drop (i + 1) := by
      rw [List.drop_eq_getElem_cons li, (List.getElem?_eq_some_iff.mp hk).2]
    rw [ek] at run
    obtain ⟨S0, rfl, run⟩ := run
    have km : k ∈ t.rpost := List.mem_reverse.mp (List.mem_of_getElem? hk)
    have pk := part_of km
    have smk : k.small := fun n hn => sm n (pk.2 n hn)
    have T2 := Tk.but o2 hm1
    rw [List.length_append] at sl
    refine ⟨_, rfl, m, _, rfl, .inl (.inl (.inl h2)), _, rfl, x, k, rfl, T2, fun g ks H3 hg h3 A3 s3 => ?_⟩
    have kl := A3.len
    refine ⟨g, _, rfl, .inr (.inl (.inl h3)), _, _, rfl, rfl, ?_⟩
    have h23 := s3 _ _ h2
    have first : (((((S0 ++ k.kids).map Tm.txt).map V.str).length : Nat) : Int) - ((ks.length : Nat) : Int) = ((S0.length : Nat) : Int) := by
      rw [List.length_map, List.length_map, List.length_append, kl]; omega
    refine ⟨rfl, _, rfl, _, rfl, _, rfl, _, rfl, m, _, rfl, .inl (.inl h23), fun d hd => ?_⟩
    have dm : d ≠ m := (ne_of_none h23 hd).symm
    rw [cut_from (i := S0.length) first]
    have cut : (((S0 ++ k.kids).map Tm.txt).map V.str).drop S0.length = (k.kids.map Tm.txt).map V.str := by
      rw [List.map_append, List.map_append, List.drop_left' (by rw [List.length_map, List.length_map])]
    rw [cut]
    have s4 := same_new hd (.lst ((k.kids.map Tm.txt).map V.str))
    refine ⟨x, k, d, rfl, (T2.same s3).same s4, smk, by omega, upd_same, ?_⟩
    refine ⟨(by show 1 ≤ sizeLine; decide), fun b hb => ?_⟩
    have s5 := same_new hb (.lst [V.str k.txt])
    have h25 := s5 _ _ (s4 _ _ h23)
    refine ⟨_, rfl, _, rfl, _, rfl, m, b, _, _, S0.length, rfl, rfl, congrArg some first, h25, upd_same, ne_of_none (s4 _ _ h23) hb, ?_, ?_, ?_⟩
    · rw [List.length_map, List.length_map, List.length_append]; omega
    · rw [List.length_map, List.length_map, List.length_append, List.length_singleton]; omega
    · refine ⟨S0 ++ [k], _, _, rfl, ?_, run, ?_, ?_, ?_⟩
      · rw [upd_same, List.map_append, List.map_append, List.take_left' (by rw [List.length_map, List.length_map]), List.map_append, List.map_append]
        rfl
      · intro k' hk'
        rcases List.mem_append.mp hk' with z | z
        · exact parts k' (by simp [z])
        · simp at z; subst z; exact km
      · rw [List.length_append, List.length_singleton]
        have := List.length_append (as := S0) (bs := k.kids)
        omega
      · intro c o' z nc
        rw [upd_ne nc]
        exact s5 _ _ (s4 _ _ (s3 _ _ (o2 _ _ z nc)))
  · rintro σ H2 ⟨S, x3, x4, rfl, h2, run, parts, sl, o2⟩
    rw [List.drop_of_length_le (by omega)] at run
    obtain rfl : S = [t] := run
    refine ⟨_, rfl, m, _, _, _, rfl, rfl, .inl (.inl h2), at_of (j := 0) rfl rfl, q H2 ?_⟩
    exact fun c o z => o2 c o (s1 _ _ (s0 _ _ z)) (ne_of_none z hm)
theorem scTermText : FnScope ["term"] ["term"] (defScope sTermText) := ⟨rfl, rfl, rfl, by decide +kernel, rfl, by decide +kernel, by decide +kernel⟩
theorem ok_termtext {f fF fO : Addr} {fd dF : FuncData} (F : Fun K "term_text" "term_text" sTermText f fd)
    (GF : FnOk P w K mg base CX0 3 fF dF ["term", "made_of"] (spFold fO)) (kF : PySem.W.keepIn K (.ref fF) = true) (bF : Binds K dF ["term", "made_of"] []) (mF : mg "fold" = some (.ref fF)) (mO : mg "_text_of" = some (.ref fO)) :
    FnOk P w K mg base CX0 4 f fd ["term"] spTermText := by
  refine F.ok scTermText (fun vs H Q E h => ?_) (fun cdv A outer s H vs Q E hr h => ?_)
  · obtain ⟨v, t, rfl, _⟩ := h
    rfl
  obtain ⟨v, t, rfl, T, sm, sz, q⟩ := h
  refine ⟨_, pss_one (ps_ret (pe_call GF hr rfl mF kF bF .nil pass0 (pa_cons (pv 0) (pa_cons (pe_glob (v := .ref fO) rfl mO rfl) pa_nil)))), ?_⟩
  exact ⟨_, rfl, v, t, rfl, T, sm, sz, q⟩
end
end Rp

/-! A TERM's text, its brackets and commas blanked, cut at the blanks: its signs, ahead of their parts. -/
namespace Rp
open PySem PySem.Spec PyProof.Rows L2 TL
def blank1 (c d : Nat) : Nat := if d = c then 32 else d
theorem spl_ne (S : List Nat) : ∀ (k : Nat) (acc l : List Nat), spl S k acc l ≠ []
  | 0, acc, [] => by rw [spl_nil]; simp
  | k + 1, acc, [] => by rw [spl_nil]; simp
  | k + 1, acc, _ :: r => by show spl S k acc r ≠ []; exact spl_ne S k acc r
  | 0, acc, c :: r => by
    by_cases h : pre S (c :: r) = true
    · rw [spl_hit h]; simp
    · rw [spl_miss (by simpa using h)]; exact spl_ne S 0 _ r
theorem join_spl (c : Nat) : ∀ (l acc : List Nat), joinL [32] (spl [c] 0 acc l) = acc ++ l.map (blank1 c)
  | [], acc => by rw [spl_nil]; simp [joinL]
  | d :: r, acc => by
    by_cases h : d = c
    · have hp : pre [c] (d :: r) = true := by simp [pre, h]
      rw [spl_hit hp]
      have ih := join_spl c r []
      have ne := spl_ne [c] 0 [] r
      show joinL [32] (acc :: spl [c] 0 [] r) = _
      cases e : spl [c] 0 [] r with
      | nil => exact absurd e ne
      | cons q rest =>
        rw [e] at ih
        show acc ++ ([32] ++ joinL [32] (q :: rest)) = _
        rw [ih]
        simp [blank1, h]
    · have hp : pre [c] (d :: r) = false := by simp [pre, h]
      rw [spl_miss hp, join_spl c r]
      simp [blank1, h]
theorem repl_tl (x : Str) {c : Nat} (hc : c < 256) : tl (Txt.replace x ⟨#[c]⟩ ⟨#[32]⟩) = (tl x).map (blank1 c) := by
  rw [PySem.StrLaws.replace_one, tl_join, split_spl x ⟨#[c]⟩ (by show [c] ≠ []; simp) ?_]
  · show joinL [32] (spl [c] 0 [] (tl x)) = _
    rw [join_spl]
    simp
  · exact kind_ok (by simp [hc])
namespace Tm
def sgn : Tm → List Str
  | v n => ["x" ++ Str.ofString (toString n)]
  | z => ["0"]
  | s t => "s" :: t.sgn
  | f l r => "f" :: (l.sgn ++ r.sgn)
theorem sgn_len : ∀ t : Tm, t.sgn.length = t.size
  | v _ => rfl | z => rfl | s t => by simp [sgn, size, sgn_len t]
  | f l r => by simp [sgn, size, sgn_len l, sgn_len r]
end Tm
def b3 (d : Nat) : Nat := blank1 44 (blank1 41 (blank1 40 d))
theorem b3_same {d : Nat} (h : d ≠ 40 ∧ d ≠ 41 ∧ d ≠ 44) : b3 d = d := by
  unfold b3 blank1
  rw [if_neg h.1, if_neg h.2.1, if_neg h.2.2]
theorem b3_num {l : List Nat} (h : ∀ d ∈ l, 48 ≤ d ∧ d ≤ 57) : l.map b3 = l := by
  have : l.map b3 = l.map id := List.map_congr_left fun d hd => b3_same (by have := h d hd; omega)
  rw [this, List.map_id]
theorem numL_small (n : Nat) : ∀ d ∈ numL n, 48 ≤ d ∧ d ≤ 57 := fun d hd => numL_digits n d hd
def spc (t : Tm) : List Nat := (tl t.txt).map b3
theorem t_x : tl ("x" : Str) = [120] := by decide +kernel
theorem t_0 : tl ("0" : Str) = [48] := by decide +kernel
theorem t_s : tl ("s" : Str) = [115] := by decide +kernel
theorem t_f : tl ("f" : Str) = [102] := by decide +kernel
theorem t_open : tl ("(" : Str) = [40] := by decide +kernel
theorem t_close : tl (")" : Str) = [41] := by decide +kernel
theorem t_comma : tl ("," : Str) = [44] := by decide +kernel
theorem tl_int {n : Int} (h : 0 ≤ n) : tl (Str.ofString (toString n)) = numL n.toNat := by
  obtain ⟨k, rfl⟩ := Int.eq_ofNat_of_zero_le h
  rw [tl_num]
  rfl
theorem spc_v {n : Int} (h : 0 ≤ n) : spc (.v n) = 120 :: numL n.toNat := by
  show (tl (("x" : Str) ++ Str.ofString (toString n))).map b3 = _
  rw [tl_append, t_x, tl_int h, List.map_append, b3_num (numL_small _)]
  rfl
theorem spc_z : spc .z = [48] := by decide +kernel
theorem spc_s (t : Tm) : spc (.s t) = 115 :: 32 :: (spc t ++ [32]) := by
  show (tl (("s" : Str) ++ "(" ++ Txt.join "," [t.txt] ++ ")")).map b3 = _
  rw [join1, tl_append, tl_append, tl_append, t_s, t_open, t_close, List.map_append, List.map_append]
  rfl
theorem spc_f (l r : Tm) : spc (.f l r) = 102 :: 32 :: (spc l ++ 32 :: (spc r ++ [32])) := by
  show (tl (("f" : Str) ++ "(" ++ Txt.join "," [l.txt, r.txt] ++ ")")).map b3 = _
  rw [join2, tl_append, tl_append, tl_append, tl_append, tl_append, t_f, t_open, t_close, t_comma]
  simp only [List.map_append]
  show [102] ++ [32] ++ (spc l ++ [32] ++ spc r) ++ [32] = _
  simp
theorem space32 : Unicode.isSpace 32 = true := by decide +kernel
theorem nosp {d : Nat} (h : (48 ≤ d ∧ d ≤ 57) ∨ d = 115 ∨ d = 102 ∨ d = 120) : Unicode.isSpace d = false := by
  have all : ∀ k : Fin 128, ((48 ≤ k.val ∧ k.val ≤ 57) ∨ k.val = 115 ∨ k.val = 102 ∨ k.val = 120) → Unicode.isSpace k.val = false := by decide +kernel
  exact all ⟨d, by omega⟩ h
theorem word_step {p : List Nat} (hp : p ≠ []) (h : ∀ c ∈ p, Unicode.isSpace c = false) (ws : List (List Nat)) (rest : List Nat) : (p ++ 32 :: rest).foldl wstep (ws, []) = rest.foldl wstep (ws ++ [p], []) := by
  rw [List.foldl_append, wfold_word p ws [] h, List.nil_append, List.foldl_cons]
  have : wstep (ws, p) 32 = (ws ++ [p], []) := by unfold wstep; rw [if_pos space32]; exact if_neg hp
  rw [this]
theorem gap_step (ws : List (List Nat)) (rest : List Nat) : (32 :: rest).foldl wstep (ws, []) = rest.foldl wstep (ws, []) := by
  rw [List.foldl_cons]
  have : wstep (ws, []) 32 = (ws, []) := by unfold wstep; rw [if_pos space32]; exact if_pos rfl
  rw [this]
theorem fold_spc : ∀ (t : Tm) (_ : t.small) (ws : List (List Nat)) (rest : List Nat), (spc t ++ 32 :: rest).foldl wstep (ws, []) = rest.foldl wstep (ws ++ t.sgn.map tl, [])
  | .v n, h, ws, rest => by
    have h0 := (h n (by simp [Tm.nums])).1
    rw [spc_v h0, word_step (by simp) ?_]
    · show _ = List.foldl wstep (ws ++ [tl (("x" : Str) ++ Str.ofString (toString n))], []) rest
      rw [tl_append, t_x, tl_int h0]
      rfl
    · intro c hc
      rcases List.mem_cons.mp hc with rfl | hc
      · exact nosp (.inr (.inr (.inr rfl)))
      · exact nosp (.inl (numL_small _ c hc))
  | .z, h, ws, rest => by
    rw [spc_z, word_step (by simp) ?_]
    · show _ = List.foldl wstep (ws ++ [tl ("0" : Str)], []) rest
      rw [t_0]
    · intro c hc
      simp at hc
      exact nosp (.inl (by omega))
  | .s t, h, ws, rest => by
    rw [spc_s]
    show ([115] ++ 32 :: ((spc t ++ [32]) ++ 32 :: rest)).foldl wstep (ws, []) = _
    rw [word_step (by simp) (by intro c hc; simp at hc; exact nosp (.inr (.inl hc)))]
    rw [show (spc t ++ [32]) ++ 32 :: rest = spc t ++ 32 :: (32 :: rest) by simp, fold_spc t h, gap_step]
    simp [Tm.sgn, t_s]
  | .f l r, h, ws, rest => by
    rw [spc_f]
    show ([102] ++ 32 :: ((spc l ++ 32 :: (spc r ++ [32])) ++ 32 :: rest)).foldl wstep (ws, []) = _
    rw [word_step (by simp) (by intro c hc; simp at hc; exact nosp (.inr (.inr (.inl hc))))]
    rw [show (spc l ++ 32 :: (spc r ++ [32])) ++ 32 :: rest = spc l ++ 32 :: (spc r ++ 32 :: (32 :: rest)) by simp,
      fold_spc l (fun n hn => h n (by simp [Tm.nums, hn])), fold_spc r (fun n hn => h n (by simp [Tm.nums, hn])), gap_step]
    simp [Tm.sgn, t_f]
theorem wfin_gap (st : List (List Nat) × List Nat) : wfin (wstep st 32) = wfin st := by
  unfold wstep wfin
  rw [if_pos space32]
  by_cases h : st.2 = []
  · rw [if_pos h, if_pos h]
  · rw [if_neg h, if_neg h]
    simp
/-- the text with brackets and commas blanked -/
def blanked (x : Str) : Str := Txt.replace (Txt.replace (Txt.replace x "(" " ") ")" " ") "," " "
theorem blanked_tl (x : Str) : tl (blanked x) = (tl x).map b3 := by
  have e32 : (" " : Str) = ⟨#[32]⟩ := by decide +kernel
  have e40 : ("(" : Str) = ⟨#[40]⟩ := by decide +kernel
  have e41 : (")" : Str) = ⟨#[41]⟩ := by decide +kernel
  have e44 : ("," : Str) = ⟨#[44]⟩ := by decide +kernel
  unfold blanked
  rw [e32, e40, e41, e44, repl_tl _ (by decide), repl_tl _ (by decide), repl_tl _ (by decide), List.map_map, List.map_map]
  rfl
theorem words_txt (t : Tm) (h : t.small) : Txt.words (blanked t.txt) = t.sgn := by
  refine map_tl_inj ?_
  rw [words_tl, blanked_tl]
  show wfin ((spc t).foldl wstep ([], [])) = _
  rw [← wfin_gap]
  have : wstep ((spc t).foldl wstep ([], [])) 32 = (spc t ++ 32 :: []).foldl wstep ([], []) := by rw [List.foldl_append]; rfl
  rw [this, fold_spc t h]
  simp [wfin]
theorem blanked_len (x : Str) : (blanked x).length = x.length := by
  rw [len_tl, len_tl, blanked_tl, List.length_map]
end Rp

namespace Rp
open PySem PySem.Spec PyProof.Rows L2 TL
/-- the sign of a variable -/
def xn (n : Int) : Str := "x" ++ Str.ofString (toString n)
theorem xn_facts {n : Int} (h : 0 ≤ n ∧ n ≤ 99) : cutS (xn n) none (some 1) = "x" ∧ (xn n).length ≤ 3 ∧ cutS (xn n) (some 1) none = Str.ofString (toString n) ∧ Txt.isdecimal (Str.ofString (toString n)) = true ∧ intText? (Str.ofString (toString n)) = some n ∧
    xn n ≠ "0" ∧ xn n ≠ "s" ∧ xn n ≠ "f" := by
  have all : ∀ k : Fin 100, cutS (xn (k.val : Int)) none (some 1) = "x" ∧ (xn (k.val : Int)).length ≤ 3 ∧ cutS (xn (k.val : Int)) (some 1) none = Str.ofString (toString (k.val : Int)) ∧ Txt.isdecimal (Str.ofString (toString (k.val : Int))) = true ∧
    xn (k.val : Int) ≠ "0" ∧ xn (k.val : Int) ≠ "s" ∧ xn (k.val : Int) ≠ "f" := by decide +kernel
  obtain ⟨k, rfl⟩ := Int.eq_ofNat_of_zero_le h.1
  obtain ⟨a, b, c, d, e, f, g⟩ := all ⟨k, by omega⟩
  exact ⟨a, b, c, d, int_num (Nat.le_trans (numL_len (k := 2) (by decide) (by omega)) (by decide)), e, f, g⟩
def spNumberOf : Sp := fun vs H Q _ => ∃ n : Int, vs = [.str (xn n)] ∧ 0 ≤ n ∧ n ≤ 99 ∧ Q (.int n) H
section
variable {P : Program} {w : World} {K : PySem.W.Frag} {mg : Str → Option Value} {base : Heap}
theorem scNumberOf : FnScope ["sign"] ["sign"] (defScope sNumberOf) := ⟨rfl, rfl, rfl, by decide +kernel, rfl, by decide +kernel, by decide +kernel⟩
theorem ok_numberof {f : Addr} {fd : FuncData} (F : Fun K "_number_of" "_number_of" sNumberOf f fd) (mLen : mg "len" = none) (mInt : mg "int" = none) : FnOk P w K mg base CX0 1 f fd ["sign"] spNumberOf := by
  refine F.ok scNumberOf (fun vs H Q E h => ?_) (fun cdv A outer s H vs Q E hr h => ?_)
  · obtain ⟨n, rfl, _⟩ := h
    rfl
  obtain ⟨n, rfl, h0, h1, q⟩ := h
  refine ⟨_, pss_cons (ps_if (PW.pt (pw_and (pt_cmpR op_eq (pe_slice sl_str (pv 0) po_none (po_some pe_int)) pe_str (nomark _))
      (pw_and (pt_cmpR op_le (pe_callB call_len_str (by rfl) mLen PySem.boot_len (pa_cons (pv 0) pa_nil)) pe_int (nomark _))
      (pw_and1 (pt_val (pe_bm0 PySem.F.plainAttrs_str PySem.F.slot_str_isdecimal PySem.F.type_str_isdecimal mt_isdecimal (pe_slice sl_str (pv 0) (po_some pe_int) po_none)))))))
      (pss_one (ps_ret (pe_callTy call_int_str (by rfl) mInt (by decide +kernel) (pa_cons (pe_slice sl_str (pv 0) (po_some pe_int) po_none) pa_nil)))) pss_nil)
    (pss_one (ps_ret pe_non)), ?_⟩
  obtain ⟨f1, f2, f3, f4, f5, _⟩ := xn_facts ⟨h0, h1⟩
  have big : (10000 : Nat) ≤ sizeLine := by decide
  have nl := num_len ⟨h0, h1⟩
  refine ⟨_, rfl, 1, rfl, xn n, rfl, by omega, ?_⟩
  rw [f1]
  refine ⟨rfl, true, congrArg V.bl (decide_eq_true rfl), iteT ?_⟩
  refine ⟨_, rfl, xn n, rfl, by omega, _, _, rfl, rfl, true, congrArg V.bl (decide_eq_true (by omega)), iteT ?_⟩
  refine ⟨_, rfl, 1, rfl, xn n, rfl, by omega, rfl, _, rfl, rfl, trivial, true, ?_, iteT ?_⟩
  · rw [f3, f4]
  · refine ⟨_, rfl, 1, rfl, xn n, rfl, by omega, _, n, rfl, ?_, ?_, q⟩
    · rw [f3]; exact f5
    · rw [f3]; omega
end
end Rp

namespace Rp
open PySem PySem.Spec PyProof.Rows L2 TL
namespace Tm
/-- the parts, each ahead of its own -/
def ahead : Tm → List Tm
  | v n => [v n] | z => [z] | s t => s t :: t.ahead | f l r => f l r :: (l.ahead ++ r.ahead)
def sign1 : Tm → Str
  | v n => xn n | z => "0" | s _ => "s" | f _ _ => "f"
theorem sgn_ahead : ∀ t : Tm, t.sgn = t.ahead.map sign1
  | v n => rfl | z => rfl | s t => by simp [sgn, ahead, sign1, sgn_ahead t]
  | f l r => by simp [sgn, ahead, sign1, sgn_ahead l, sgn_ahead r]
theorem ahead_len : ∀ t : Tm, t.ahead.length = t.size
  | v _ => rfl | z => rfl | s t => by simp [ahead, size, ahead_len t]
  | f l r => by simp [ahead, size, ahead_len l, ahead_len r]
end Tm
theorem ahead_small : ∀ {t k : Tm}, k ∈ t.ahead → t.small → k.small
  | .v n, k, h, s => by simp [Tm.ahead] at h; subst h; exact s
  | .z, k, h, s => by simp [Tm.ahead] at h; subst h; exact s
  | .s t, k, h, s => by
    simp [Tm.ahead] at h
    rcases h with rfl | h
    · exact s
    · exact ahead_small (t := t) h s
  | .f l r, k, h, s => by
    simp [Tm.ahead] at h
    rcases h with rfl | h | h
    · exact s
    · exact ahead_small (t := l) h fun n hn => s n (by simp [Tm.nums, hn])
    · exact ahead_small (t := r) h fun n hn => s n (by simp [Tm.nums, hn])
def runsR : List Tm → List Tm → List Tm → Prop
  | S, [], S' => S = S'
  | S, k :: r, S' => ∃ S0, S = S0 ++ k.kids.reverse ∧ runsR (S0 ++ [k]) r S'
theorem runsR_post : ∀ (t : Tm) (S r S' : List Tm), runsR (S ++ [t]) r S' → runsR S (t.ahead.reverse ++ r) S'
  | .v n, S, r, S', h => by simp only [Tm.ahead, List.reverse_singleton, List.singleton_append]; exact ⟨S, by simp [Tm.kids], h⟩
  | .z, S, r, S', h => by simp only [Tm.ahead, List.reverse_singleton, List.singleton_append]; exact ⟨S, by simp [Tm.kids], h⟩
  | .s t, S, r, S', h => by
    simp only [Tm.ahead, List.reverse_cons, List.append_assoc, List.singleton_append]
    exact runsR_post t S _ _ ⟨S, by simp [Tm.kids], h⟩
  | .f l r', S, r, S', h => by
    simp only [Tm.ahead, List.reverse_cons, List.reverse_append, List.append_assoc, List.singleton_append]
    exact runsR_post r' S _ _ (runsR_post l (S ++ [r']) _ _ ⟨S, by simp [Tm.kids], h⟩)
def spFromSigns : Sp := fun vs H Q _ => ∃ (p : Addr) (t : Tm), vs = [.ref p] ∧ H p = some (.lst (t.sgn.map V.str)) ∧ t.small ∧ t.size ≤ 1000 ∧ ∀ (v : V) (H' : Hp), TmAt H' v t → Same H H' → Q v H'
theorem str_ne {x y : Str} (h : x ≠ y) : decide (V.str x = V.str y) = false := decide_eq_false fun z => h (V.str.inj z)
section
variable {P : Program} {w : World} {K : PySem.W.Frag} {mg : Str → Option Value} {base : Heap}
theorem scFromSigns : FnScope ["signs", "made", "sign", "left"] ["signs"] (defScope sFromSigns) := ⟨rfl, rfl, rfl, by decide +kernel, rfl, by decide +kernel, by decide +kernel⟩
theorem ok_fromsigns {f fN : Addr} {fd dN : FuncData} (F : Fun K "_from_signs" "_from_signs" sFromSigns f fd)
    (GN : FnOk P w K mg base CX0 1 fN dN ["sign"] spNumberOf) (kN : PySem.W.keepIn K (.ref fN) = true) (bN : Binds K dN ["sign"] []) (mN : mg "_number_of" = some (.ref fN))
    (mLen : mg "len" = none) (mRev : mg "reversed" = none) : FnOk P w K mg base CX0 2 f fd ["signs"] spFromSigns := by
  refine F.ok scFromSigns (fun vs H Q E h => ?_) (fun cdv A outer s H vs Q E hr h => ?_)
  · obtain ⟨p, t, rfl, _⟩ := h
    rfl
  obtain ⟨p, t, rfl, hp, sm, sz, q⟩ := h
  refine ⟨_, pss_cons (ps_set (i := 1) scFromSigns.nd rfl (Or.inl rfl) (pe_lst pa_nil))
    (pss_cons (ps_for PassesOwn.never rfl (pi_reversed (by rfl) mRev (pa_cons (pv 0) pa_nil)) (pg_name (i := 2) scFromSigns.nd rfl (Or.inl rfl))
      (pss_one (ps_if (pt_cmpR op_eq (pv 2) pe_str (nomark _)) (pss_one (ps_expr (pe_bm PySem.F.plainAttrs_list PySem.F.slot_list_append PySem.F.type_list_append mt_append (pv 1) (pa_cons (pe_tup (pa_cons pe_str pa_nil)) pa_nil))))
      (pss_one (ps_if (PW.pt (pw_and (pt_cmpR op_eq (pv 2) pe_str (nomark _)) (pw_and1 (pt_truth (pv 1) (by intro _; rfl)))))
        (pss_one (ps_expr (pe_bm PySem.F.plainAttrs_list PySem.F.slot_list_append PySem.F.type_list_append mt_append (pv 1) (pa_cons (pe_tup (pa_cons pe_str (pa_cons (pe_bm0 PySem.F.plainAttrs_list PySem.F.slot_list_pop PySem.F.type_list_pop mt_pop (pv 1)) pa_nil))) pa_nil))))
      (pss_one (ps_if (PW.pt (pw_and (pt_cmpR op_eq (pv 2) pe_str (nomark _)) (pw_and1 (pt_cmpR op_gt (pe_callB call_len_seq (by rfl) mLen PySem.boot_len (pa_cons (pv 1) pa_nil)) pe_int (nomark _)))))
        (pss_cons (ps_set (i := 3) scFromSigns.nd rfl (Or.inl rfl) (pe_bm0 PySem.F.plainAttrs_list PySem.F.slot_list_pop PySem.F.type_list_pop mt_pop (pv 1)))
        (pss_one (ps_expr (pe_bm PySem.F.plainAttrs_list PySem.F.slot_list_append PySem.F.type_list_append mt_append (pv 1) (pa_cons (pe_tup (pa_cons pe_str (pa_cons (pv 3) (pa_cons (pe_bm0 PySem.F.plainAttrs_list PySem.F.slot_list_pop PySem.F.type_list_pop mt_pop (pv 1)) pa_nil)))) pa_nil)))))
      (pss_one (ps_if (pt_cmpR op_notN (pe_call GN hr rfl mN kN bN .nil pass0 (pa_cons (pv 2) pa_nil)) pe_non (nomark _))
        (pss_one (ps_expr (pe_bm PySem.F.plainAttrs_list PySem.F.slot_list_append PySem.F.type_list_append mt_append (pv 1) (pa_cons (pe_call GN hr rfl mN kN bN .nil pass0 (pa_cons (pv 2) pa_nil)) pa_nil))))
        (pss_one (ps_ret pe_non)))))))))))
    (pss_one (ps_ret (pe_ifExp (pt_cmpR op_eq (pe_callB call_len_seq (by rfl) mLen PySem.boot_len (pa_cons (pv 1) pa_nil)) pe_int (nomark _)) (pe_ix ix_list (pv 1) pe_int (fun _ _ => rfl)) pe_non)))), ?_⟩
  refine ⟨(by show 0 ≤ sizeLine; decide), fun m hm => ?_⟩
  have s0 := same_new hm (.lst ([] : List V))
  have hp1 := s0 _ _ hp
  have pm : p ≠ m := ne_of_none hp hm
  have big : (10000 : Nat) ≤ sizeLine := by decide
  have xl : (t.sgn.map V.str).length = t.size := by rw [List.length_map, Tm.sgn_len]
  have al : t.ahead.length = t.size := Tm.ahead_len t
  refine ⟨_, rfl, p, _, rfl, .inl (.inl hp1), RT.for_Itv (K := K) (a := p) (xs := t.sgn.map V.str) (fun i σ H2 => ∃ (S : List Tm) (ws : List V) (x2 x3 : Option V), σ = [some (.ref p), some (.ref m), x2, x3] ∧ H2 m = some (.lst ws) ∧ AllAt H2 ws S ∧
      runsR S (t.ahead.reverse.drop i) [t] ∧ S.length ≤ i ∧ But m (upd H m (.lst ([] : List V))) H2) ⟨[], [], none, none, rfl, upd_same, trivial, ?_, by simp, But.refl _ _⟩ (fun i σ H2 ⟨_, _, _, _, _, _, _, _, _, o⟩ => .inl (.inl (o _ _ hp1 pm))) ?_ ?_⟩
  · have := runsR_post t [] [] [t] rfl
    simpa using this
  · rintro i x σ H2 hi hx ⟨S, ws, x2, x3, rfl, h2, AS, run, sl, o2⟩
    rw [xl] at hi hx
    have li : i < t.ahead.reverse.length := by rw [List.length_reverse]; omega
    obtain ⟨k, hk⟩ : ∃ k, t.ahead.reverse[i]? = some k := ⟨_, List.getElem?_eq_getElem li⟩
    have ex : x = .str k.sign1 := by
      rw [Tm.sgn_ahead, List.map_map, List.getElem?_map] at hx
      rw [List.getElem?_reverse (by omega), al] at hk
      rw [hk] at hx
      simpa using hx.symm
    subst ex
    have ek : t.ahead.reverse.drop i = k :: t.ahead.reverse.drop (i + 1) := by
      rw [List.drop_eq_getElem_cons li, (List.getElem?_eq_some_iff.mp hk).2]
    rw [ek] at run
    obtain ⟨S0, rfl, run⟩ := run
    have km : k ∈ t.ahead := List.mem_reverse.mp (List.mem_of_getElem? hk)
    have smk := ahead_small km sm
    have wl := AS.len
    rw [List.length_append] at sl
    have mNone : H m = none := hm
    have n0s : ("0" : Str) ≠ "s" := by decide +kernel
    have n0f : ("0" : Str) ≠ "f" := by decide +kernel
    have nsf : ("s" : Str) ≠ "f" := by decide +kernel
    have nall : ∀ (g : Addr) (H3 : Hp), H3 g = none → (∀ c o, (upd H m (.lst ([] : List V))) c = some o → c ≠ m → H3 c = some o) → ∀ c o, (upd H m (.lst ([] : List V))) c = some o → c ≠ m → c ≠ g := fun g H3 hg st c o z nc e => by
      subst e
      have := st c o z nc
      rw [hg] at this
      cases this
    cases k with
    | v n =>
      have hn := smk n (by simp [Tm.nums])
      obtain ⟨_, _, _, _, _, g0, gs, gf⟩ := xn_facts hn
      have e0 : S0 ++ (Tm.v n).kids.reverse = S0 := by simp [Tm.kids]
      rw [e0] at AS wl
      refine ⟨_, rfl, rfl, false, congrArg V.bl (str_ne g0), iteF ?_⟩
      refine ⟨_, rfl, rfl, false, congrArg V.bl (str_ne gs), iteF ?_⟩
      refine iteF ?_
      refine ⟨_, rfl, rfl, false, congrArg V.bl (str_ne gf), iteF ?_⟩
      refine iteF ?_
      refine ⟨_, rfl, n, rfl, hn.1, hn.2, rfl, true, congrArg (fun z => V.bl (!z)) (decide_eq_false (fun z => nomatch z)), iteT ?_⟩
      refine ⟨_, rfl, .inl ⟨rfl, _, .inl (.inl h2)⟩, _, rfl, n, rfl, hn.1, hn.2, m, ws, _, rfl, rfl, h2, by omega, ?_⟩
      refine ⟨S0 ++ [.v n], ws ++ [.int n], _, _, rfl, upd_same, ?_, run, by rw [List.length_append, List.length_singleton]; omega, fun c o z nc => by rw [upd_ne nc]; exact o2 c o z nc⟩
      have keep : ∀ a xs, H2 a = some (.tup xs) → (upd H2 m (.lst (ws ++ [.int n]))) a = some (.tup xs) := fun a xs z => by rw [upd_ne (ne_of z h2 (by intro z; cases z))]; exact z
      exact (AS.mono keep).append ⟨.v n, trivial⟩
    | z =>
      have e0 : S0 ++ (Tm.z).kids.reverse = S0 := by simp [Tm.kids]
      rw [e0] at AS wl
      refine ⟨_, rfl, rfl, true, congrArg V.bl (decide_eq_true rfl), iteT ?_⟩
      refine ⟨_, rfl, .inl ⟨rfl, _, .inl (.inl h2)⟩, (by show 1 ≤ sizeLine; decide), fun g hg => ?_⟩
      have s3 := same_new hg (.tup [V.str "0"])
      have h3 := s3 _ _ h2
      refine ⟨m, ws, _, rfl, rfl, h3, by omega, ?_⟩
      have keep : ∀ a xs, (upd H2 g (.tup [V.str "0"])) a = some (.tup xs) → (upd (upd H2 g (.tup [V.str "0"])) m (.lst (ws ++ [.ref g]))) a = some (.tup xs) := fun a xs z => by rw [upd_ne (ne_of z h3 (by intro z; cases z))]; exact z
      refine ⟨S0 ++ [.z], ws ++ [.ref g], _, _, rfl, upd_same, ?_, run, by rw [List.length_append, List.length_singleton]; omega, fun c o z nc => by rw [upd_ne nc]; exact s3 _ _ (o2 c o z nc)⟩
      exact (AS.mono fun a xs z => keep a xs (s3 _ _ z)).append ⟨.z (keep _ _ upd_same), trivial⟩
    | s t' =>
      obtain ⟨w0, w1, rfl, A0, A1⟩ : ∃ w0 w1, ws = w0 ++ [w1] ∧ AllAt H2 w0 S0 ∧ TmAt H2 w1 t' := by
        rcases List.eq_nil_or_concat ws with e | ⟨M, y, e⟩
        · subst e; simp [Tm.kids] at wl
        · rw [List.concat_eq_append] at e
          subst e
          obtain ⟨L1, L2, e2, B1, B2⟩ := AS.parted
          match L2, B2 with
          | [u], B2 =>
            have e2' : S0 ++ [t'] = L1 ++ [u] := e2
            obtain ⟨e3, e4⟩ := List.append_inj' e2' rfl
            injection e4 with e4
            subst e3 e4
            exact ⟨M, y, rfl, B1, B2.1⟩
      refine ⟨_, rfl, rfl, false, congrArg V.bl (str_ne n0s.symm), iteF ?_⟩
      refine ⟨_, rfl, rfl, true, congrArg V.bl (decide_eq_true rfl), iteT ?_⟩
      refine ⟨_, rfl, true, .inl ⟨_, .inl (.inl h2), by simp⟩, iteT ?_⟩
      refine ⟨_, rfl, .inl ⟨rfl, _, .inl (.inl h2)⟩, _, rfl, .inl ⟨rfl, _, .inl (.inl h2)⟩, m, _, w1, rfl, rfl, h2, by simp, (by show 2 ≤ sizeLine; decide), fun g hg => ?_⟩
      rw [List.dropLast_concat] at hg ⊢
      have s3 := same_new hg (.tup [V.str "s", w1])
      have hm3 := s3 _ _ (upd_same : (upd H2 m (.lst w0)) m = some (.lst w0))
      have sl' : w0.length < sizeLine := by rw [A0.len]; omega
      refine ⟨m, w0, _, rfl, rfl, hm3, sl', ?_⟩
      have k1 : ∀ a xs, H2 a = some (.tup xs) → (upd H2 m (.lst w0)) a = some (.tup xs) := fun a xs z => by rw [upd_ne (ne_of z h2 (by intro z; cases z))]; exact z
      have k2 : ∀ a xs, (upd (upd H2 m (.lst w0)) g (.tup [V.str "s", w1])) a = some (.tup xs) → (upd (upd (upd H2 m (.lst w0)) g (.tup [V.str "s", w1])) m (.lst (w0 ++ [.ref g]))) a = some (.tup xs) := fun a xs z => by rw [upd_ne (ne_of z hm3 (by intro z; cases z))]; exact z
      have k3 : ∀ a xs, H2 a = some (.tup xs) → (upd (upd (upd H2 m (.lst w0)) g (.tup [V.str "s", w1])) m (.lst (w0 ++ [.ref g]))) a = some (.tup xs) := fun a xs z => k2 a xs (s3 _ _ (k1 a xs z))
      refine ⟨S0 ++ [.s t'], w0 ++ [.ref g], _, _, rfl, upd_same, (A0.mono k3).append ⟨.s (k2 _ _ upd_same) (A1.mono k3), trivial⟩, run, by rw [List.length_append, List.length_singleton]; omega, fun c o z nc => ?_⟩
      rw [upd_ne nc]
      exact s3 _ _ (by rw [upd_ne nc]; exact o2 c o z nc)
    | f l r =>
      obtain ⟨w0, wr, wl', rfl, A0, Ar, Al⟩ : ∃ w0 wr wl', ws = w0 ++ [wr] ++ [wl'] ∧ AllAt H2 w0 S0 ∧ TmAt H2 wr r ∧ TmAt H2 wl' l := by
        have eS : S0 ++ (Tm.f l r).kids.reverse = S0 ++ [r] ++ [l] := by simp [Tm.kids]
        rw [eS] at AS wl
        rcases List.eq_nil_or_concat ws with e | ⟨M, y, e⟩
        · subst e; simp at wl
        · rw [List.concat_eq_append] at e
          subst e
          obtain ⟨L1, L2, e2, B1, B2⟩ := AS.parted
          match L2, B2 with
          | [u], B2 =>
            obtain ⟨e3, e4⟩ := List.append_inj' e2 rfl
            injection e4 with e4
            subst e3 e4
            rcases List.eq_nil_or_concat M with e | ⟨M', y', e⟩
            · subst e; have := B1.len; simp at this
            · rw [List.concat_eq_append] at e
              subst e
              obtain ⟨L3, L4, e5, B3, B4⟩ := B1.parted
              match L4, B4 with
              | [u'], B4 =>
                obtain ⟨e6, e7⟩ := List.append_inj' e5 rfl
                injection e7 with e7
                subst e6 e7
                exact ⟨M', y', y, rfl, B3, B4.1, B2.1⟩
      have hl2 : decide ((1 : Int) < (((w0 ++ [wr] ++ [wl']).length : Nat) : Int)) = true := decide_eq_true (by simp; omega)
      refine ⟨_, rfl, rfl, false, congrArg V.bl (str_ne n0f.symm), iteF ?_⟩
      refine ⟨_, rfl, rfl, false, congrArg V.bl (str_ne nsf.symm), iteF ?_⟩
      refine iteF ?_
      refine ⟨_, rfl, rfl, true, congrArg V.bl (decide_eq_true rfl), iteT ?_⟩
      refine ⟨_, rfl, m, _, rfl, .inl (.inl (.inl h2)), _, _, rfl, rfl, true, congrArg V.bl hl2, iteT ?_⟩
      refine ⟨_, rfl, .inl ⟨rfl, _, .inl (.inl h2)⟩, m, _, wl', rfl, rfl, h2, by simp, ?_⟩
      rw [List.dropLast_concat]
      have h3 : (upd H2 m (.lst (w0 ++ [wr]))) m = some (.lst (w0 ++ [wr])) := upd_same
      refine ⟨_, rfl, .inl ⟨rfl, _, .inl (.inl h3)⟩, _, rfl, _, rfl, .inl ⟨rfl, _, .inl (.inl h3)⟩, m, _, wr, rfl, rfl, h3, by simp, (by show 3 ≤ sizeLine; decide), fun g hg => ?_⟩
      rw [List.dropLast_concat, upd_upd] at hg ⊢
      have s3 := same_new hg (.tup [V.str "f", wl', wr])
      have hm3 := s3 _ _ (upd_same : (upd H2 m (.lst w0)) m = some (.lst w0))
      have sl' : w0.length < sizeLine := by rw [A0.len]; omega
      refine ⟨m, w0, _, rfl, rfl, hm3, sl', ?_⟩
      have k1 : ∀ a xs, H2 a = some (.tup xs) → (upd H2 m (.lst w0)) a = some (.tup xs) := fun a xs z => by rw [upd_ne (ne_of z h2 (by intro z; cases z))]; exact z
      have k2 : ∀ a xs, (upd (upd H2 m (.lst w0)) g (.tup [V.str "f", wl', wr])) a = some (.tup xs) → (upd (upd (upd H2 m (.lst w0)) g (.tup [V.str "f", wl', wr])) m (.lst (w0 ++ [.ref g]))) a = some (.tup xs) := fun a xs z => by rw [upd_ne (ne_of z hm3 (by intro z; cases z))]; exact z
      have k3 : ∀ a xs, H2 a = some (.tup xs) → (upd (upd (upd H2 m (.lst w0)) g (.tup [V.str "f", wl', wr])) m (.lst (w0 ++ [.ref g]))) a = some (.tup xs) := fun a xs z => k2 a xs (s3 _ _ (k1 a xs z))
      refine ⟨S0 ++ [.f l r], w0 ++ [.ref g], _, _, rfl, upd_same, (A0.mono k3).append ⟨.f (k2 _ _ upd_same) (Al.mono k3) (Ar.mono k3), trivial⟩, run, by rw [List.length_append, List.length_singleton]; omega, fun c o z nc => ?_⟩
      rw [upd_ne nc]
      exact s3 _ _ (by rw [upd_ne nc]; exact o2 c o z nc)
  · rintro σ H2 ⟨S, ws, x2, x3, rfl, h2, AS, run, sl, o2⟩
    rw [List.drop_of_length_le (by rw [List.length_reverse, xl, al]; exact Nat.le_refl _)] at run
    obtain rfl : S = [t] := run
    match ws, AS with
    | [x], AS =>
      refine ⟨_, rfl, m, _, rfl, .inl (.inl (.inl h2)), rfl, true, congrArg V.bl (decide_eq_true rfl), iteT ?_⟩
      refine ⟨_, rfl, m, _, _, _, rfl, rfl, .inl (.inl h2), at_of (j := 0) rfl rfl, q x H2 AS.1 ?_⟩
      exact fun c o z => o2 c o (s0 _ _ z) (ne_of_none z hm)
end
end Rp

namespace Rp
open PySem PySem.Spec PyProof.Rows L2 TL CwR
section
variable {X : Cx} {o e : Expr} {to te : TE}
/-- words of what wants a token -/
theorem pet_words {apos pos : Pos} (ho : PET X o to) (hbase : attributeBase o "split" X.env (eval o X.env) = eval o X.env := by rfl) (hline : (apos.endLine == pos.line) = true := by rfl) :
    PET X (.Call (.Attribute o "split" apos) [] [] pos) (tM0 (fun x xs H Q => ∃ a, x = .str a ∧ xs = [] ∧ a.length + 2 ≤ sizeLine ∧ rNewStrs (Txt.words a) H Q) to) := by
  intro pins s σ H Q tk I h
  refine PySem.Call_method0 hbase hline (thn (ho pins s σ H _ tk I h) fun recv s1 ⟨x, H1, I1, rel, told, go⟩ => ?_)
  obtain ⟨text, rfl⟩ := told
  obtain ⟨tok, rfl⟩ := _root_.id rel
  exact ⟨"str", _, PySem.F.plainAttrs_str, PySem.F.slot_str_split, PySem.F.type_str_split, typeIs_str _ _ _, (fun _ z => nomatch z), Calls.callWith_builtin rfl (PySem.evalArgs_none (mt_words pins s1 σ H1 _ [] _ [] Q I1 rel .nil go))⟩
/-- name = e, e wants a token -/
theorem pst_set {i : Nat} {x : Str} {pos pos' : Pos} (hN : X.N.Nodup) (hi : X.N[i]? = some x) (hx : Loc X.env.scope x) (he : PET X e te) (hs : swapsWith e (some (.Name x pos')) pos.line X.env = pure false := by rfl)
    (hf : X.fn x = true ∨ X.env.scope.names.lookup x = some .local := by first | exact .inl rfl | exact .inr rfl | assumption) : PST X (.Assign [.Name x pos'] e pos) (tAsg te (gName i)) := by
  intro pins s σ H D tk I h
  refine wpAny_Assign_Name (thn (he pins s σ H _ tk I h) fun u s1 ⟨y, H1, I1, rel, go⟩ => store_ok I1 hN hi hx rel (fun s2 I2 => ⟨_, H1, I2, go⟩) hf) hs
end
def spTermOr : Sp := fun vs H Q _ => ∃ t : Tm, vs = [.str t.txt] ∧ t.small ∧ t.size ≤ 200 ∧ ∀ (v : V) (H' : Hp), TmAt H' v t → Same H H' → Q v H'
section
variable {P : Program} {w : World} {K : PySem.W.Frag} {mg : Str → Option Value} {base : Heap}
theorem scTermOr : FnScope ["text", "signs", "term"] ["text"] (defScope sTermOrNone) := ⟨rfl, rfl, rfl, by decide +kernel, rfl, by decide +kernel, by decide +kernel⟩
theorem ok_termor {f fS fT : Addr} {fd dS dT : FuncData} {tk : Tok} (F : Fun K "term_or_none" "term_or_none" sTermOrNone f fd)
    (GS : FnOk P w K mg base CX0 2 fS dS ["signs"] spFromSigns) (kS : PySem.W.keepIn K (.ref fS) = true) (bS : Binds K dS ["signs"] []) (mS : mg "_from_signs" = some (.ref fS))
    (GT : FnOk P w K mg base CX0 4 fT dT ["term"] spTermText) (kT : PySem.W.keepIn K (.ref fT) = true) (bT : Binds K dT ["term"] []) (mT : mg "term_text" = some (.ref fT))
    (mLen : mg "len" = none) (mMost : mg "MOST_SIGNS" = some (.int 200 tk)) : FnOk P w K mg base CX0 5 f fd ["text"] spTermOr := by
  obtain ⟨oc, od, kV, doc, pm, an, cdv, ct, osl, rfl, lk, hcd⟩ := F.ex
  refine fn_ofT lk hcd scTermOr (by decide +kernel) (by decide) (fun vs H Q E h => ?_) (fun A outer s H vs Q E hr h => ?_)
  · obtain ⟨t, rfl, _⟩ := h
    rfl
  obtain ⟨t, rfl, sm, sz, q⟩ := h
  have r2 : Room 2 _ := hr.mono (by decide)
  refine ⟨_, psst_cons (pst_set (i := 1) scTermOr.nd rfl (Or.inl rfl) (pet_words (pet_replT (pet_replT (pet_replC (pv 0))))))
    (PSsT.of (pss_cons (ps_set (i := 2) scTermOr.nd rfl (Or.inl rfl) (pe_ifExp (pt_cmpR op_le (pe_callB call_len_seq (by rfl) mLen PySem.boot_len (pa_cons (pv 1) pa_nil)) (pe_glob (v := .int 200) rfl mMost ⟨_, rfl⟩) (nomark _)) (pe_call GS r2 rfl mS kS bS .nil pass0 (pa_cons (pv 1) pa_nil)) pe_non))
    (pss_cons (ps_if (PW.pt (pw_or (pt_cmpR op_isN (pv 2) pe_non (nomark _)) (pw_or1 (pt_cmpR op_ne (pe_call GT hr rfl mT kT bT .nil pass0 (pa_cons (pv 2) pa_nil)) (pv 0) (nomark _))))) (pss_one (ps_ret pe_non)) pss_nil)
    (pss_one (ps_ret (pv 2)))))), ?_⟩
  have tl_ := txt_len t sm
  have big : (10000 : Nat) ≤ sizeLine := by decide
  have l1 : (" " : Str).length = 1 := by decide +kernel
  have e32 : (" " : Str) = ⟨#[32]⟩ := by decide +kernel
  have e40 : ("(" : Str) = ⟨#[40]⟩ := by decide +kernel
  have e41 : (")" : Str) = ⟨#[41]⟩ := by decide +kernel
  have rl1 : ∀ x : Str, (Txt.replace x "(" " ").length = x.length := fun x => by rw [e32, e40, len_tl, len_tl, repl_tl _ (by decide), List.length_map]
  have rl2 : ∀ x : Str, (Txt.replace x ")" " ").length = x.length := fun x => by rw [e32, e41, len_tl, len_tl, repl_tl _ (by decide), List.length_map]
  refine ⟨_, rfl, t.txt, rfl, by rw [l1]; omega, _, rfl, by rw [l1, rl1]; omega, _, rfl, by rw [l1, rl2, rl1]; omega, ⟨_, rfl⟩, _, rfl, rfl, ?_, fun p hp => ?_⟩
  · show (blanked t.txt).length + 2 ≤ _
    rw [blanked_len]; omega
  have ew : Txt.words (Txt.replace (Txt.replace (Txt.replace t.txt "(" " ") ")" " ") "," " ") = t.sgn := words_txt t sm
  rw [ew]
  have s1 := same_new hp (.lst (t.sgn.map V.str))
  refine ⟨_, rfl, p, _, rfl, .inl (.inl (.inl upd_same)), _, _, rfl, rfl, true, congrArg V.bl (decide_eq_true (by rw [List.length_map, Tm.sgn_len]; omega)), iteT ?_⟩
  refine ⟨_, rfl, p, t, rfl, upd_same, sm, by omega, fun v H2 T s2 => ?_⟩
  have vn : v ≠ .non := by cases T <;> (intro z; cases z)
  refine ⟨_, rfl, rfl, false, congrArg V.bl (decide_eq_false vn), iteF ?_⟩
  refine ⟨_, rfl, v, t, rfl, T, sm, by omega, fun H3 s3 => ⟨_, rfl, rfl, false, congrArg (fun z => V.bl (!z)) (decide_eq_true rfl), iteF ?_⟩⟩
  exact ⟨_, rfl, q v H3 (T.same s3) (s1.trans (s2.trans s3))⟩
end
end Rp

/-! a, *b = xs, a list of one item at least. -/
namespace Rp
open PySem PySem.Spec PySem.Calls PyProof.Rows L2 PySem.W
section
variable {prog : Program} {w : World} {A : Around} {E : Value → Shared → Prop} {s : Shared}
theorem unpack_star {l : Addr} {items : Array Value} {n i : Nat} {Q : List Value → Shared → Prop} (isL : s.heap.IsList l items) (calm : A.handled = none) (hi : i < n) (hn : n ≤ items.size + 1) (few : items.size ≤ 16384)
    (go : ∀ (h' : Heap) (tk : Nat), (∀ b o, s.heap.get? b = some o → h'.get? b = some o) → Q (items.toList.take i ++ [.ref h'.objs.size] ++ (items.toList.drop i).drop (items.size + 1 - n))
      { s with heap := h'.push (seqObj "list" ((items.toList.drop i).take (items.size + 1 - n)).toArray 0), toks := tk }) : wpAny (model prog w) A (unpackItems (.ref l) n (some i)) Q E s := by
  have apart : l ≠ s.heap.objs.size := by obtain ⟨o, ho, _⟩ := isL; exact Nat.ne_of_lt (Heap.lt_size ho)
  unfold unpackItems; refine wpAny_bind ?_; unfold notIterableAtAll
  refine wpAny_bind (wpAny_specialOf isL.typeIs slot_list_iter.lookup (wpAny_pure ?_)); simp only [Bool.false_eq_true, if_false]
  refine wpAny_bind (wpAny_holding (wpAny_pyIter_list isL (wpAny_bind (wpAny_holding (kun_draw apart i 0 _ _ ⟨_, Heap.get?_push_size _ rfl, rfl, rfl⟩ (isL.push _) (by omega) fun h₁ it1 sb1 => ?_)))))
  have isL1 : h₁.IsList l items := (isL.push _).extBut sb1.extBut apart
  rw [Nat.zero_add] at it1
  obtain ⟨oi, hoi, _⟩ := id it1
  obtain ⟨ol, hol, _⟩ := id isL1
  rw [List.drop_zero, if_neg (show ¬ ((items.toList.take i).length < i) by rw [List.length_take, Array.length_toList]; omega)]
  refine wpAny_bind (wpAny_holding (kun_collect (s := { s with heap := h₁ }) (T := "list_iterator") (.inr (.inr (.inl rfl))) (Walks.list (A := A.in1) calm s.heap.objs.size l apart items) (fun j u st => st.1.typeIs) (k := i) (by omega) ⟨it1, isL1⟩
    (Heap.lt_size hoi) (Heap.lt_size hol) (fun h₂ tk old => ?_) (by rw [sizeLine_eq]; omega)))
  have rest : (items.toList.drop i).length = items.size - i := by rw [List.length_drop, Array.length_toList]
  show wpAny _ _ (if (items.toList.drop i).length < n - 1 - i then _ else _) _ _ _; rw [if_neg (by rw [rest]; omega)]
  show wpAny _ _ (newList ((items.toList.drop i).take ((items.toList.drop i).length - (n - 1 - i))) >>= fun d => pure (items.toList.take i ++ [d] ++ (items.toList.drop i).drop ((items.toList.drop i).length - (n - 1 - i)))) _ _ _
  rw [show (items.toList.drop i).length - (n - 1 - i) = items.size + 1 - n by rw [rest]; omega]
  refine wpAny_bind (wpAny_newList (wpAny_pure (go h₂ tk fun b o z => old b o (Nat.ne_of_lt (Heap.lt_size z)) (sb1.extBut b o (Nat.ne_of_lt (Heap.lt_size z)) (Heap.get?_push_of_some _ z)))) (by rw [List.length_take, rest, sizeLine_eq]; omega))
end
section
variable {X : Cx} {pos : Pos}
/-- (a, *b) = a list: the first item, a new list of the others -/
def gStar (K : PySem.W.Frag) (t : TGs) : TG := fun v σ H Q => ∃ (a : Addr) (x : V) (xs : List V), v = .ref a ∧ SqL K H a (x :: xs) ∧ xs.length ≤ 16000 ∧ ∀ p, H p = none → t [x, .ref p] σ (upd H p (.lst xs)) Q
theorem pg_star {es : List Expr} {k : Nat} {t : TGs} (calm : X.calm = true) (h : PGs X es t) (hn : (assignEach es X.env).length = 2 := by rfl) (hst : (assignEach es X.env).findIdx? (·.1) = some 1 := by rfl) : PG X (.Tuple es k pos) (gStar X.K t) := by
  refine ⟨fun pins s σ H v u Q I r hw => ?_⟩
  obtain ⟨a, x, xs, rfl, sq, few, go⟩ := hw
  cases r
  obtain ⟨its, rv, isL, _⟩ := I.list sq
  have len := rv.length
  cases rv with
  | @cons _ v0 _ vs r0 rr =>
    have lv := rr.length
    rw [assign_Tuple]
    refine wpAny_bind (wpAny_standAt ?_)
    unfold unpack
    rw [hn, hst]
    refine wpAny_bind (wpAny_holding (unpack_star isL.isList (I.ok.hd calm) (by decide) (by simp) (by simp; omega) fun h' tk old => ?_))
    have J : Inv X pins σ H { s with heap := h', toks := tk } := I.kept old
    have big : (20000 : Nat) ≤ sizeLine := by decide
    have K1 : Inv X pins σ (upd H h'.objs.size (.lst xs)) { s with heap := h'.push (seqObj "list" vs.toArray 0), toks := tk } :=
      J.laid (t' := tk) (fun b o z => Heap.get?_push_of_some _ z) (Nat.le_refl _) ⟨by omega, vs, 0, rr, Heap.get?_push_size _ rfl⟩
    have e1 : ((v0 :: vs).toArray.toList.drop 1).take ((v0 :: vs).toArray.size + 1 - 2) = vs := by simp
    have e2 : (v0 :: vs).toArray.toList.take 1 ++ [Value.ref h'.objs.size] ++ ((v0 :: vs).toArray.toList.drop 1).drop ((v0 :: vs).toArray.size + 1 - 2) = [v0, .ref h'.objs.size] := by simp
    rw [e1, e2]
    exact h.run pins _ σ _ [x, .ref h'.objs.size] _ Q K1 (.cons r0 (.cons rfl .nil)) (go _ (J.hok.fresh (Nat.le_refl _)))
end
end Rp

set_option maxHeartbeats 8000000
/-! NAMEs and ATOMs. -/
namespace Rp
open PySem PySem.Spec PyProof.Rows L2 TL
def letters : Str := "abcdefghijklmnopqrstuvwxyz"
structure NameOk (x : Str) : Prop where
  pos : 1 ≤ x.length
  few : x.length ≤ 6
  low : ∀ c ∈ tl x, 97 ≤ c ∧ c ≤ 122
  nif : x ≠ "if"
theorem in_letters {c : Nat} (h : 97 ≤ c ∧ c ≤ 122) : c ∈ letters.cps.toList := by
  have all : ∀ k : Fin 26, k.val + 97 ∈ letters.cps.toList := by decide +kernel
  have := all ⟨c - 97, by omega⟩
  rwa [show c - 97 + 97 = c by omega] at this
theorem tm_ok : ∀ t : Tm, (tmD t).canLay0 = true ∧ (tmD t).depth ≤ t.deep + 1 ∧ nd (tmD t) ≤ 2 * t.size
  | .v n => ⟨rfl, by simp [tmD, PyData.depth], by simp [tmD, nd, Tm.size]⟩
  | .z => ⟨by decide +kernel, by simp [tmD, PyData.depth, PyData.depthAll], by simp [tmD, nd, ndAll, Tm.size]⟩
  | .s t => by
    have ih := tm_ok t
    have a : PyData.canLay0 (.str "s") = true := by decide +kernel
    refine ⟨?_, ?_, ?_⟩
    · simp only [tmD, PyData.canLay0, PyData.canLayAll0, Bool.and_true, Bool.and_eq_true]; exact ⟨by simpa [PyData.canLay0] using a, ih.1⟩
    · simp only [tmD, PyData.depth, PyData.depthAll, Tm.deep]; omega
    · simp only [tmD, nd, ndAll, Tm.size]; omega
  | .f l r => by
    have ih := tm_ok l
    have ih2 := tm_ok r
    have a : PyData.canLay0 (.str "f") = true := by decide +kernel
    refine ⟨?_, ?_, ?_⟩
    · simp only [tmD, PyData.canLay0, PyData.canLayAll0, Bool.and_true, Bool.and_eq_true]; exact ⟨by simpa [PyData.canLay0] using a, ih.1, ih2.1⟩
    · simp only [tmD, PyData.depth, PyData.depthAll, Tm.deep]; omega
    · simp only [tmD, nd, ndAll, Tm.size]; omega
structure At where
  nm : Str
  ts : List Tm
structure AtOk (z : Nat) (a : At) : Prop where
  nm : NameOk a.nm
  one : 1 ≤ a.ts.length
  two : a.ts.length ≤ 2
  sm : ∀ t ∈ a.ts, t.small ∧ t.size ≤ z
def AtAt (H : Hp) (v : V) (a : At) : Prop := ∃ (p : Addr) (xs : List V), v = .ref p ∧ H p = some (.tup (.str a.nm :: xs)) ∧ AllAt H xs a.ts
def spIsName : Sp := fun vs H Q _ => ∃ x : Str, vs = [.str x] ∧ NameOk x ∧ ∀ H', Same H H' → Q (.bl true) H'
def spIsAtom : Sp := fun vs H Q _ => ∃ (v : V) (a : At), vs = [v] ∧ AtAt H v a ∧ AtOk 50 a ∧ ∀ H', Same H H' → Q (.bl true) H'
section
variable {P : Program} {w : World} {K : PySem.W.Frag} {mg : Str → Option Value} {base : Heap}
theorem scIsName : FnScope ["thing", "sign"] ["thing"] (defScope sIsName) := ⟨rfl, rfl, rfl, by decide +kernel, rfl, by decide +kernel, by decide +kernel⟩
theorem ok_isname {f : Addr} {fd : FuncData} {t1 t2 : Tok} (F : Fun K "is_name" "is_name" sIsName f fd) (M : SameG mg) (mL : mg "LETTERS" = some (.str letters t1)) (mM : mg "MOST_LETTERS" = some (.int 6 t2)) : FnOk P w K mg base CX0 1 f fd ["thing"] spIsName := by
  refine F.ok scIsName (fun vs H Q E h => ?_) (fun cdv A outer s H vs Q E hr h => ?_)
  · obtain ⟨x, rfl, _⟩ := h
    rfl
  obtain ⟨x, rfl, ok, q⟩ := h
  refine ⟨_, pss_cons (ps_if (PW.pt (pw_or (pt_not (pt_val (pe_callB (id := "isinstance") call_isi (by rfl) M.isi (by decide +kernel) (pa_cons (pv 0) (pa_cons (pe_bltn (v := .ty "str") (by rfl) M.str (by decide +kernel) rfl) pa_nil)))))
      (pw_or1 (pt_not (pt_chain op_le op_le pe_int (pe_callB call_len_str (by rfl) M.len PySem.boot_len (pa_cons (pv 0) pa_nil)) (pe_glob (v := .int 6) rfl mM ⟨_, rfl⟩)))))) (pss_one (ps_ret pe_bl)) pss_nil)
    (pss_one (ps_ret (pe_and (pe_cmpR op_ne (pv 0) pe_str (nomark _)) (pe_one (pe_callB (cr_all rfl) (by rfl) M.all (by decide +kernel) (pa_cons (pe_lc (own := [("sign", 1)]) (g := gName 1) (tt := tYes) (te := tOp rInS (tVar 1) (tC (.str letters))) rfl scIsName.nd
        (pi_str (pv 0)) (blkOk_by (N := ["thing", "sign"]) (sc := defScope sIsName) (by decide +kernel)) (fun _ _ _ _ _ => pg_name (i := 1) scIsName.nd rfl (Or.inl rfl))
        (fun _ _ _ _ _ => pts_nil) (fun _ _ _ _ _ => pe_cmpR op_inS (pv 1) (pe_glob (v := .str letters) (by rfl) mL ⟨_, rfl⟩) (by rfl))) pa_nil)))))), ?_⟩
  have big : (10000 : Nat) ≤ sizeLine := by decide
  have h1 := ok.pos
  have h2 := ok.few
  refine ⟨_, rfl, _, _, _, _, true, rfl, .ty "str", .base (.str x), kit_ty (by decide +kernel), true, rfl, iteF ?_⟩
  refine ⟨_, rfl, x, rfl, by omega, _, _, rfl, rfl, decide ((1 : Int) ≤ (x.length : Nat)), rfl, ?_⟩
  rw [decide_eq_true (by omega)]
  refine iteT ⟨_, _, rfl, rfl, true, congrArg V.bl (decide_eq_true (by omega)), iteF ?_⟩
  refine ⟨_, rfl, rfl, true, congrArg (fun z => V.bl (!z)) (str_ne ok.nif), iteT ?_⟩
  refine ⟨_, rfl, x, rfl, fun D hD => lc_it (walk_str (z := x)) (fun i H2 => H2 D = some (.lst (List.replicate i (V.bl true))) ∧ Same H H2) ⟨upd_same, same_new hD _⟩ (fun _ _ _ _ => trivial) ?_ ?_⟩
  · rintro i y H2 H3 hi ⟨h2, s2⟩ ⟨rfl, c, hc, rfl⟩
    have cm : c ∈ tl x := Array.mem_toList_iff.mpr (Array.mem_of_getElem? hc)
    have cl := in_letters (ok.low c cm)
    have li : x.cps.size = x.length := rfl
    refine ⟨rfl, ?_⟩
    refine ⟨_, rfl, c, letters, rfl, rfl, _, h2, ?_, ?_, ?_⟩
    · rw [List.length_replicate]; omega
    · rw [decide_eq_true cl, upd_same, List.replicate_succ']
    · intro a o z
      rw [upd_ne (ne_of_none z hD)]
      exact s2 _ _ z
  · rintro H2 ⟨h2, s2⟩
    have e : (List.replicate x.cps.size true).all id = true := by rw [List.all_eq_true]; intro y hy; rw [List.eq_of_mem_replicate hy]; rfl
    refine ⟨D, List.replicate x.cps.size true, rfl, .inl (.inl (by rw [List.map_replicate]; exact h2)), ?_⟩
    rw [e]
    exact q H2 s2
theorem scIsAtom : FnScope ["thing", "term"] ["thing"] (defScope sIsAtom) := ⟨rfl, rfl, rfl, by decide +kernel, rfl, by decide +kernel, by decide +kernel⟩
theorem ok_isatom {f fN fT : Addr} {fd dN dT : FuncData} (F : Fun K "is_atom" "is_atom" sIsAtom f fd)
    (GN : FnOk P w K mg base CX0 1 fN dN ["thing"] spIsName) (kN : PySem.W.keepIn K (.ref fN) = true) (bN : Binds K dN ["thing"] []) (mN : mg "is_name" = some (.ref fN))
    (GT : FnOk P w K mg base CX0 3 fT dT ["thing"] spTerm) (kT : PySem.W.keepIn K (.ref fT) = true) (bT : Binds K dT ["thing"] []) (mT : mg "is_term" = some (.ref fT)) (M : SameG mg) : FnOk P w K mg base CX0 4 f fd ["thing"] spIsAtom := by
  refine F.ok scIsAtom (fun vs H Q E h => ?_) (fun cdv A outer s H vs Q E hr h => ?_)
  · obtain ⟨v, a, rfl, _⟩ := h
    rfl
  obtain ⟨v, a, rfl, ⟨p, xs, rfl, hp, A1⟩, ok, q⟩ := h
  have r1 : Room 1 _ := hr.mono (by decide)
  refine ⟨_, pss_cons (ps_if (PW.pt (pw_or (pt_not (pt_val (pe_callB (id := "isinstance") call_isi (by rfl) M.isi (by decide +kernel) (pa_cons (pv 0) (pa_cons (pe_bltn (v := .ty "tuple") (by rfl) M.tuple (by decide +kernel) rfl) pa_nil)))))
      (pw_or1 (pt_not (pt_chain op_le op_le pe_int (pe_callB call_len_seq (by rfl) M.len PySem.boot_len (pa_cons (pv 0) pa_nil)) pe_int))))) (pss_one (ps_ret pe_bl)) pss_nil)
    (pss_one (ps_ret (pe_and (pe_call GN r1 rfl mN kN bN .nil pass0 (pa_cons (pe_ix ix_tup (pv 0) pe_int (fun _ _ => rfl)) pa_nil)) (pe_one (pe_callB (cr_all rfl) (by rfl) M.all (by decide +kernel) (pa_cons (pe_lc (own := [("term", 1)]) (g := gName 1) (tt := tYes) (te := tCall spTerm [] E0 (tCons (tVar 1) tNil)) rfl scIsAtom.nd
        (pi_tup (pe_slice sl_tup (pv 0) (po_some pe_int) po_none)) (blkOk_by (N := ["thing", "term"]) (sc := defScope sIsAtom) (by decide +kernel)) (fun _ _ _ _ _ => pg_name (i := 1) scIsAtom.nd rfl (Or.inl rfl))
        (fun _ _ _ _ _ => pts_nil) (fun _ _ _ _ _ => pe_call GT hr (by rfl) mT kT bT .nil pass0 (pa_cons (pv 1) pa_nil))) pa_nil)))))), ?_⟩
  have big : (10000 : Nat) ≤ sizeLine := by decide
  have xl := A1.len
  have o1 := ok.one
  have o2 := ok.two
  refine ⟨_, rfl, _, _, _, _, true, rfl, .ty "tuple", .base (.tup hp), kit_ty (by decide +kernel), true, rfl, iteF ?_⟩
  have l2 : (((V.str a.nm :: xs).length : Nat) : Int) = (xs.length : Nat) + 1 := by rw [List.length_cons]; omega
  refine ⟨_, rfl, p, _, rfl, .inr (.inl (.inl hp)), _, _, rfl, rfl, true, congrArg V.bl (decide_eq_true (by omega)), iteT ⟨_, _, rfl, rfl, true, congrArg V.bl (decide_eq_true (by omega)), iteF ?_⟩⟩
  refine ⟨_, rfl, p, _, _, _, rfl, rfl, .inl (.inl hp), at_of (j := 0) rfl rfl, a.nm, rfl, ok.nm, fun H1 s1 => ⟨true, rfl, iteT ?_⟩⟩
  refine ⟨_, rfl, 1, rfl, p, _, rfl, .inl (.inl (s1 _ _ hp)), cut_part _ _, fun g hg => ?_⟩
  rw [cut_tail]
  have s2 := same_new hg (.tup xs)
  refine ⟨g, rfl, ⟨_, .inl (.inl upd_same)⟩, fun D hD => lc_tup (K := K) (a := g) (xs := xs) (fun i H2 => H2 D = some (.lst (List.replicate i (V.bl true))) ∧ Same (upd H1 g (.tup xs)) H2) ⟨upd_same, same_new hD _⟩ (fun i H2 _ h => .inl (.inl (h.2 _ _ upd_same))) ?_ ?_⟩
  · rintro i x H2 hi ⟨h2, s3⟩
    obtain ⟨t, ht, T⟩ := A1.get hi
    obtain ⟨sm, sz⟩ := ok.sm t (List.mem_of_getElem? ht)
    have li : i < xs.length := (List.getElem?_eq_some_iff.mp hi).1
    have d1 := Tm.deep_lt t
    have T2 := ((T.same s1).same s2).same s3
    obtain ⟨c1, c2, c3⟩ : (tmD t).canLay0 = true ∧ (tmD t).depth ≤ t.deep + 1 ∧ nd (tmD t) ≤ 2 * t.size := tm_ok t
    refine ⟨rfl, ?_⟩
    refine ⟨_, rfl, g, x, tmD t, rfl, T2.dat, ⟨c1, by omega⟩, by omega, fun r H3 hr3 s4 => ?_⟩
    obtain rfl : r = true := hr3.mpr ⟨t, rfl, sm⟩
    refine ⟨_, s4 _ _ h2, ?_, ?_, ?_⟩
    · rw [List.length_replicate]; omega
    · rw [upd_same, List.replicate_succ']
    · intro c o z
      rw [upd_ne (ne_of_none z hD)]
      exact s4 _ _ (s3 _ _ z)
  · rintro H2 ⟨h2, s3⟩
    have e : (List.replicate xs.length true).all id = true := by rw [List.all_eq_true]; intro y hy; rw [List.eq_of_mem_replicate hy]; rfl
    refine ⟨D, List.replicate xs.length true, rfl, .inl (.inl (by rw [List.map_replicate]; exact h2)), ?_⟩
    rw [e]
    exact q H2 (s1.trans (s2.trans s3))
end
end Rp

set_option maxHeartbeats 8000000
namespace Rp
open PySem PySem.Spec PyProof.Rows L2 TL StX
theorem pgs_star {X : Cx} {e : Expr} {es : List Expr} {p : Pos} {t : TG} {u : TGs} (h1 : PG X e t) (h2 : PGs X es u) (hs : (assignEach (.Starred e p :: es) X.env).map (·.2) = assign e X.env :: (assignEach es X.env).map (·.2) := by rfl) : PGs X (.Starred e p :: es) (gCons t u) := by
  refine ⟨fun pins s σ H vs us Q I rel told => ?_⟩
  obtain ⟨v, rest, rfl, told⟩ := told
  cases rel with
  | cons r rr =>
    rw [hs]
    exact assignInOrder_cons (thn (h1.run pins s σ H _ _ _ I r told) fun _ s1 ⟨σ1, H1, J, go⟩ => h2.run pins s1 σ1 H1 _ _ Q J rr go)
theorem t_sp : tl (" " : Str) = [32] := by decide +kernel
theorem txt_low : ∀ (t : Tm), t.small → ∀ d ∈ tl t.txt, 40 ≤ d ∧ d ≤ 120
  | .v n, h, d, hd => by
    have hd : d ∈ tl (("x" : Str) ++ Str.ofString (toString n)) := hd
    rw [tl_append, t_x, tl_int (h n (by simp [Tm.nums])).1] at hd
    rcases List.mem_append.mp hd with hd | hd
    · simp at hd; omega
    · have := numL_small _ d hd; omega
  | .z, h, d, hd => by
    have hd : d ∈ tl ("0" : Str) := hd
    rw [t_0] at hd; simp at hd; omega
  | .s t, h, d, hd => by
    have hd : d ∈ tl (("s" : Str) ++ "(" ++ Txt.join "," [t.txt] ++ ")") := hd
    rw [join1, tl_append, tl_append, tl_append, t_s, t_open, t_close] at hd
    simp only [List.mem_append, List.mem_singleton] at hd
    rcases hd with ((hd | hd) | hd) | hd
    · omega
    · omega
    · exact txt_low t h d hd
    · omega
  | .f l r, h, d, hd => by
    have hd : d ∈ tl (("f" : Str) ++ "(" ++ Txt.join "," [l.txt, r.txt] ++ ")") := hd
    rw [join2, tl_append, tl_append, tl_append, tl_append, tl_append, t_f, t_open, t_close, t_comma] at hd
    simp only [List.mem_append, List.mem_singleton] at hd
    rcases hd with ((hd | hd) | (hd | hd) | hd) | hd
    · omega
    · omega
    · exact txt_low l (fun n hn => h n (by simp [Tm.nums, hn])) d hd
    · omega
    · exact txt_low r (fun n hn => h n (by simp [Tm.nums, hn])) d hd
    · omega
def parts (a : At) : List Str := a.nm :: a.ts.map Tm.txt
def atxt (a : At) : Str := Txt.join " " (parts a)
theorem parts_free {z : Nat} {a : At} (ok : AtOk z a) : ∀ p ∈ parts a, 32 ∉ tl p := by
  intro p hp hd
  rcases List.mem_cons.mp hp with rfl | hp
  · have := ok.nm.low _ hd; omega
  · obtain ⟨t, ht, rfl⟩ := List.mem_map.mp hp
    have := txt_low t (ok.sm t ht).1 _ hd
    omega
theorem atxt_split {z : Nat} {a : At} (ok : AtOk z a) : Txt.split (atxt a) " " = parts a := split_join t_sp (by decide +kernel) (by simp [parts]) (parts_free ok)
theorem parts_sum {a : At} (ok : AtOk 50 a) : ((parts a).map (·.length)).sum + (parts a).length * 1 ≤ 500 := by
  have h1 := ok.nm.few
  have each : ∀ t ∈ a.ts, t.txt.length ≤ 200 := fun t ht => by
    have := txt_len t (ok.sm t ht).1
    have := (ok.sm t ht).2
    omega
  have o1 := ok.one
  have o2 := ok.two
  unfold parts
  match hts : a.ts with
  | [] => rw [hts] at o1; simp at o1
  | [t] => have := each t (by rw [hts]; simp); simp; omega
  | [t, u] => have := each t (by rw [hts]; simp); have := each u (by rw [hts]; simp); simp; omega
  | t :: u :: v :: r => rw [hts] at o2; simp at o2
theorem atxt_len {a : At} (ok : AtOk 50 a) : (atxt a).length ≤ 500 := by
  have jl := StrLaws.join_length_le " " (parts a)
  have l1 : (" " : Str).length = 1 := by decide +kernel
  rw [l1] at jl
  have := parts_sum ok
  unfold atxt
  rw [join_eq]
  omega
def spAtomText : Sp := fun vs H Q _ => ∃ (v : V) (a : At), vs = [v] ∧ AtAt H v a ∧ AtOk 50 a ∧ ∀ H', Same H H' → Q (.str (atxt a)) H'
def spAtomOr : Sp := fun vs H Q _ => ∃ a : At, vs = [.str (atxt a)] ∧ AtOk 50 a ∧ ∀ (v : V) (H' : Hp), AtAt H' v a → Same H H' → Q v H'
section
variable {P : Program} {w : World} {K : PySem.W.Frag} {mg : Str → Option Value} {base : Heap}
theorem scAtomText : FnScope ["atom", "term"] ["atom"] (defScope sAtomText) := ⟨rfl, rfl, rfl, by decide +kernel, rfl, by decide +kernel, by decide +kernel⟩
theorem ok_atomtext {f fT : Addr} {fd dT : FuncData} (F : Fun K "atom_text" "atom_text" sAtomText f fd)
    (GT : FnOk P w K mg base CX0 4 fT dT ["term"] spTermText) (kT : PySem.W.keepIn K (.ref fT) = true) (bT : Binds K dT ["term"] []) (mT : mg "term_text" = some (.ref fT)) : FnOk P w K mg base CX0 5 f fd ["atom"] spAtomText := by
  refine F.ok scAtomText (fun vs H Q E h => ?_) (fun cdv A outer s H vs Q E hr h => ?_)
  · obtain ⟨v, a, rfl, _⟩ := h
    rfl
  obtain ⟨v, a, rfl, ⟨p, xs, rfl, hp, A1⟩, ok, q⟩ := h
  refine ⟨_, pss_one (ps_ret (pe_bm PySem.F.plainAttrs_str PySem.F.slot_str_join PySem.F.type_str_join mt_join pe_str (pa_cons (pe_lst (pa_cons (pe_ix ix_tup (pv 0) pe_int (fun _ _ => rfl)) (pa_star
      (pe_lc (own := [("term", 1)]) (g := gName 1) (tt := tYes) (te := tCall spTermText [] E0 (tCons (tVar 1) tNil)) rfl scAtomText.nd (pi_tup (pe_slice sl_tup (pv 0) (po_some pe_int) po_none)) (blkOk_by (N := ["atom", "term"]) (sc := defScope sAtomText) (by decide +kernel)) (fun _ _ _ _ _ => pg_name (i := 1) scAtomText.nd rfl (Or.inl rfl))
        (fun _ _ _ _ _ => pts_nil) (fun _ _ _ _ _ => pe_call GT hr (by rfl) mT kT bT .nil pass0 (pa_cons (pv 1) pa_nil))) pa_nil))) pa_nil))), ?_⟩
  have big : (10000 : Nat) ≤ sizeLine := by decide
  have xl := A1.len
  have o2 := ok.two
  refine ⟨rfl, _, rfl, p, _, _, _, rfl, rfl, .inl (.inl hp), at_of (j := 0) rfl rfl, _, rfl, 1, rfl, p, _, rfl, .inl (.inl hp), cut_part _ _, fun g hg => ?_⟩
  rw [cut_tail]
  have s2 := same_new hg (.tup xs)
  refine ⟨g, rfl, ⟨_, .inl (.inl upd_same)⟩, fun D hD => lc_tup (K := K) (a := g) (xs := xs) (fun i H2 => H2 D = some (.lst (((a.ts.take i).map Tm.txt).map V.str)) ∧ Same (upd H g (.tup xs)) H2) ⟨upd_same, same_new hD _⟩ (fun i H2 _ h => .inl (.inl (h.2 _ _ upd_same))) ?_ ?_⟩
  · rintro i x H2 hi ⟨h2, s3⟩
    obtain ⟨t, ht, T⟩ := A1.get hi
    obtain ⟨sm, sz⟩ := ok.sm t (List.mem_of_getElem? ht)
    refine ⟨rfl, ?_⟩
    refine ⟨_, rfl, x, t, rfl, (T.same s2).same s3, sm, by omega, fun H3 s4 => ⟨_, s4 _ _ h2, ?_, ?_, ?_⟩⟩
    · rw [List.length_map, List.length_map, List.length_take]; omega
    · have tk : a.ts.take (i + 1) = a.ts.take i ++ [t] := by rw [List.take_add_one, ht]; rfl
      rw [upd_same, tk, List.map_append, List.map_append]; rfl
    · intro c o z
      rw [upd_ne (ne_of_none z hD)]
      exact s4 _ _ (s3 _ _ z)
  · rintro H2 ⟨h2, s3⟩
    rw [xl, List.take_of_length_le (Nat.le_refl _)] at h2
    refine ⟨D, _, rfl, .inr (.inl (.inl h2)), ?_⟩
    have ps := parts_sum ok
    have l1 : (" " : Str).length = 1 := by decide +kernel
    have e : [V.str a.nm] ++ ((a.ts.map Tm.txt).map V.str ++ []) = (parts a).map V.str := by simp [parts]
    refine ⟨?_, fun l hl => ?_⟩
    · simp; omega
    · have s4 := same_new hl (.lst ((parts a).map V.str))
      refine ⟨" ", l, parts a, rfl, rfl, .inl (.inl (.inl ?_)), by rw [l1]; omega, ?_⟩
      · rw [upd_same]; simp [parts]
      · exact q _ (s2.trans (Same.trans (H1 := H2) s3 (same_new hl _)))
end
end Rp

set_option maxHeartbeats 8000000
namespace Rp
open PySem PySem.Spec PyProof.Rows L2 TL StX
section
variable {P : Program} {w : World} {K : PySem.W.Frag} {mg : Str → Option Value} {base : Heap}
theorem scAtomOr : FnScope ["text", "name", "terms", "atom", "term"] ["text"] (defScope sAtomOr) := ⟨rfl, rfl, rfl, by decide +kernel, rfl, by decide +kernel, by decide +kernel⟩
theorem ok_atomor {f fT fI : Addr} {fd dT dI : FuncData} (F : Fun K "atom_or_none" "atom_or_none" sAtomOr f fd)
    (GT : FnOk P w K mg base CX0 5 fT dT ["text"] spTermOr) (kT : PySem.W.keepIn K (.ref fT) = true) (bT : Binds K dT ["text"] []) (mT : mg "term_or_none" = some (.ref fT))
    (GI : FnOk P w K mg base CX0 4 fI dI ["thing"] spIsAtom) (kI : PySem.W.keepIn K (.ref fI) = true) (bI : Binds K dI ["thing"] []) (mI : mg "is_atom" = some (.ref fI)) : FnOk P w K mg base CX0 6 f fd ["text"] spAtomOr := by
  refine F.ok scAtomOr (fun vs H Q E h => ?_) (fun cdv A outer s H vs Q E hr h => ?_)
  · obtain ⟨a, rfl, _⟩ := h
    rfl
  obtain ⟨a, rfl, ok, q⟩ := h
  have r4 : Room 4 _ := hr.mono (by decide)
  refine ⟨_, pss_cons (ps_asg (pe_split (pv 0) pe_str) (pg_star rfl (pgs_cons (pg_name (i := 1) scAtomOr.nd rfl (Or.inl rfl)) (pgs_star (pg_name (i := 2) scAtomOr.nd rfl (Or.inl rfl)) pgs_nil))))
    (pss_cons (ps_set (i := 3) scAtomOr.nd rfl (Or.inl rfl) (pe_tup (pa_cons (pv 1) (pa_star
      (pe_lc (own := [("term", 4)]) (g := gName 4) (tt := tYes) (te := tCall spTermOr [] E0 (tCons (tVar 4) tNil)) rfl scAtomOr.nd (pi_list (pv 2)) (blkOk_by (N := ["text", "name", "terms", "atom", "term"]) (sc := defScope sAtomOr) (by decide +kernel)) (fun _ _ _ _ _ => pg_name (i := 4) scAtomOr.nd rfl (Or.inl rfl))
        (fun _ _ _ _ _ => pts_nil) (fun _ _ _ _ _ => pe_call GT hr (by rfl) mT kT bT .nil pass0 (pa_cons (pv 4) pa_nil))) pa_nil))))
    (pss_one (ps_ret (pe_ifExp (pt_val (pe_call GI r4 rfl mI kI bI .nil pass0 (pa_cons (pv 3) pa_nil))) (pv 3) pe_non)))), ?_⟩
  have big : (10000 : Nat) ≤ sizeLine := by decide
  have al := atxt_len ok
  have o2 := ok.two
  refine ⟨_, rfl, ⟨_, rfl⟩, atxt a, " ", rfl, rfl, by decide +kernel, by omega, fun l hl => ?_⟩
  rw [atxt_split ok]
  have s1 := same_new hl (.lst ((parts a).map V.str))
  refine ⟨l, .str a.nm, (a.ts.map Tm.txt).map V.str, rfl, .inl (.inl upd_same), by simp; omega, fun p hp => ?_⟩
  have s2 := same_new hp (.lst ((a.ts.map Tm.txt).map V.str))
  refine ⟨_, _, rfl, _, _, rfl, rfl, ?_⟩
  have hp2 : (upd (upd H l (.lst ((parts a).map V.str))) p (.lst ((a.ts.map Tm.txt).map V.str))) p = some (.lst ((a.ts.map Tm.txt).map V.str)) := upd_same
  refine ⟨_, rfl, _, rfl, p, rfl, ⟨_, .inl (.inl hp2)⟩, fun D hD => lc_list (K := K) (a := p) (xs := (a.ts.map Tm.txt).map V.str) (fun i H2 => ∃ xs : List V, H2 D = some (.lst xs) ∧ AllAt H2 xs (a.ts.take i) ∧ Same (upd (upd H l (.lst ((parts a).map V.str))) p (.lst ((a.ts.map Tm.txt).map V.str))) H2)
    ⟨[], upd_same, trivial, same_new hD _⟩ (fun i H2 _ ⟨_, _, _, h⟩ => .inl (.inl (h _ _ hp2))) ?_ ?_⟩
  · rintro i x H2 hi ⟨xs, h2, A2, s3⟩
    rw [List.map_map, List.getElem?_map] at hi
    obtain ⟨t, ht, rfl⟩ : ∃ t, a.ts[i]? = some t ∧ x = .str t.txt := by
      cases hq : a.ts[i]? with
      | none => rw [hq] at hi; cases hi
      | some t => rw [hq] at hi; exact ⟨t, rfl, by simpa using hi.symm⟩
    obtain ⟨sm, sz⟩ := ok.sm t (List.mem_of_getElem? ht)
    have xl := A2.len
    rw [List.length_take] at xl
    refine ⟨rfl, ?_⟩
    refine ⟨_, rfl, t, rfl, sm, by omega, fun v H3 T s4 => ?_⟩
    have h3 := s4 _ _ h2
    have keep : ∀ b zs, H3 b = some (.tup zs) → (upd H3 D (.lst (xs ++ [v]))) b = some (.tup zs) := fun b zs z => by rw [upd_ne (ne_of z h3 (by intro e; cases e))]; exact z
    have tk : a.ts.take (i + 1) = a.ts.take i ++ [t] := by rw [List.take_add_one, ht]; rfl
    refine ⟨xs, h3, by omega, xs ++ [v], upd_same, ?_, ?_⟩
    · rw [tk]
      exact (A2.mono fun b zs z => keep b zs (s4 _ _ z)).append ⟨T.mono keep, trivial⟩
    · intro c o z
      rw [upd_ne (ne_of_none z hD)]
      exact s4 _ _ (s3 _ _ z)
  · rintro H2 ⟨xs, h2, A2, s3⟩
    rw [List.length_map, List.length_map, List.take_of_length_le (Nat.le_refl _)] at A2
    have xl := A2.len
    refine ⟨D, xs, rfl, .inr (.inl (.inl h2)), ?_⟩
    refine ⟨by simp; omega, fun g hg => ?_⟩
    have e0 : V.str a.nm :: (xs ++ []) = V.str a.nm :: xs := by simp
    rw [e0]
    have s4 := same_new hg (.tup (V.str a.nm :: xs))
    have T4 : AtAt (upd H2 g (.tup (V.str a.nm :: xs))) (.ref g) a := ⟨g, xs, rfl, upd_same, A2.mono fun b zs z => s4 _ _ z⟩
    have sA : Same H _ := s1.trans (s2.trans (s3.trans s4))
    refine ⟨_, rfl, _, a, rfl, T4, ok, fun H5 s5 => ⟨true, rfl, iteT ⟨_, rfl, q _ H5 ?_ (sA.trans s5)⟩⟩⟩
    obtain ⟨g', xs', e1, e2, e3⟩ := T4
    exact ⟨g', xs', e1, s5 _ _ e2, e3.mono fun b zs z => s5 _ _ z⟩
theorem scAtomIn : FnScope ["text", "atom"] ["text"] (defScope sAtomIn) := ⟨rfl, rfl, rfl, by decide +kernel, rfl, by decide +kernel, by decide +kernel⟩
theorem ok_atomin {f fO : Addr} {fd dO : FuncData} (F : Fun K "atom_in" "atom_in" sAtomIn f fd)
    (GO : FnOk P w K mg base CX0 6 fO dO ["text"] spAtomOr) (kO : PySem.W.keepIn K (.ref fO) = true) (bO : Binds K dO ["text"] []) (mO : mg "atom_or_none" = some (.ref fO)) : FnOk P w K mg base CX0 7 f fd ["text"] spAtomOr := by
  refine F.ok scAtomIn (fun vs H Q E h => ?_) (fun cdv A outer s H vs Q E hr h => ?_)
  · obtain ⟨a, rfl, _⟩ := h
    rfl
  obtain ⟨a, rfl, ok, q⟩ := h
  refine ⟨_, pss_cons (ps_set (i := 1) scAtomIn.nd rfl (Or.inl rfl) (pe_call GO hr rfl mO kO bO .nil pass0 (pa_cons (pv 0) pa_nil)))
    (pss_cons (ps_if (pt_cmpR op_isN (pv 1) pe_non (nomark _)) pss_never pss_nil) (pss_one (ps_ret (pv 1)))), ?_⟩
  refine ⟨_, rfl, a, rfl, ok, fun v H1 T s1 => ?_⟩
  have vn : v ≠ .non := by obtain ⟨g, xs, rfl, _⟩ := T; intro z; cases z
  exact ⟨_, rfl, rfl, false, congrArg V.bl (decide_eq_false vn), iteF ⟨_, rfl, q v H1 T s1⟩⟩
end
end Rp

set_option maxHeartbeats 8000000
/-! Heads of RULEs. -/
namespace Rp
open PySem PySem.Spec PyProof.Rows L2 TL StX
theorem mt_extendA {X : Cx} : MtM X "list.extend" (fun x vs H Q => rExtend x vs H Q ∨ rExtT X.K x vs H Q) := by
  intro pins s σ H x vs v us Q I rx rv h
  rcases h with h | h
  · exact mt_extend pins s σ H x vs v us Q I rx rv h
  · exact mt_extendT pins s σ H x vs v us Q I rx rv h
/-- a variable, a nought, a step or a fork of variables -/
def Tm.plain : Tm → Prop
  | .v _ => True | .z => True | .s (.v _) => True | .f (.v _) (.v _) => True | _ => False
def hvars (ts : List Tm) : List Int := ts.flatMap Tm.nums
structure HdOk (a : At) : Prop extends AtOk 50 a where
  pl : ∀ t ∈ a.ts, t.plain
  rng : hvars a.ts = (List.range (hvars a.ts).length).map Int.ofNat
def spHeadVars : Sp := fun vs H Q _ => ∃ (v : V) (a : At), vs = [v] ∧ AtAt H v a ∧ HdOk a ∧ ∀ (p : Addr) (H' : Hp), H p = none → H' p = some (.lst ((hvars a.ts).map V.int)) → Same H H' → Q (.ref p) H'
theorem plain_few {t : Tm} (h : t.plain) : t.nums.length ≤ 2 := by
  match t, h with
  | .v _, _ => simp [Tm.nums]
  | .z, _ => simp [Tm.nums]
  | .s (.v _), _ => simp [Tm.nums]
  | .f (.v _) (.v _), _ => simp [Tm.nums]
section
variable {P : Program} {w : World} {K : PySem.W.Frag} {mg : Str → Option Value} {base : Heap}
theorem scHeadVars : FnScope ["head", "found", "term"] ["head"] (defScope sHeadVars) := ⟨rfl, rfl, rfl, by decide +kernel, rfl, by decide +kernel, by decide +kernel⟩
theorem ok_headvars {f : Addr} {fd : FuncData} (F : Fun K "_head_variables" "_head_variables" sHeadVars f fd) (M : SameG mg) : FnOk P w K mg base CX0 1 f fd ["head"] spHeadVars := by
  refine F.ok scHeadVars (fun vs H Q E h => ?_) (fun cdv A outer s H vs Q E hr h => ?_)
  · obtain ⟨v, a, rfl, _⟩ := h
    rfl
  obtain ⟨v, a, rfl, ⟨p, xs, rfl, hp, A1⟩, ok, q⟩ := h
  refine ⟨_, pss_cons (ps_set (i := 1) scHeadVars.nd rfl (Or.inl rfl) (pe_lst pa_nil))
    (pss_cons (ps_for PassesOwn.never rfl (pi_tup (pe_slice sl_tup (pv 0) (po_some pe_int) po_none)) (pg_name (i := 2) scHeadVars.nd rfl (Or.inl rfl))
      (pss_one (ps_expr (pe_bm PySem.F.plainAttrs_list PySem.F.slot_list_extend PySem.F.type_list_extend mt_extendA (pv 1) (pa_cons (pe_ifExp (pt_val (pe_callB (id := "isinstance") call_isi (by rfl) M.isi (by decide +kernel) (pa_cons (pv 2) (pa_cons (pe_bltn (v := .ty "int") (by rfl) M.int (by decide +kernel) rfl) pa_nil))))
        (pe_lst (pa_cons (pv 2) pa_nil)) (pe_slice sl_tup (pv 2) (po_some pe_int) po_none)) pa_nil)))))
    (pss_one (ps_ret (pv 1)))), ?_⟩
  have big : (10000 : Nat) ≤ sizeLine := by decide
  have xl := A1.len
  have o2 := ok.two
  refine ⟨(by show 0 ≤ sizeLine; decide), fun m hm => ?_⟩
  have s1 := same_new hm (.lst ([] : List V))
  refine ⟨_, rfl, 1, rfl, p, _, rfl, .inl (.inl (s1 _ _ hp)), cut_part _ _, fun g hg => ?_⟩
  rw [cut_tail]
  have s2 := same_new hg (.tup xs)
  have gm : g ≠ m := (ne_of_none (upd_same : (upd H m (.lst ([] : List V))) m = some (.lst [])) hg).symm
  have hm2 := s2 _ _ (upd_same : (upd H m (.lst ([] : List V))) m = some (.lst []))
  have hg2 : (upd (upd H m (.lst ([] : List V))) g (.tup xs)) g = some (.tup xs) := upd_same
  have mN : H m = none := hm
  refine ⟨g, rfl, ⟨_, .inl (.inl hg2)⟩, for_tup (K := K) (a := g) (xs := xs) (fun i σ H2 => ∃ x2 : Option V, σ = [some (.ref p), some (.ref m), x2] ∧ H2 m = some (.lst ((hvars (a.ts.take i)).map V.int)) ∧ But m (upd (upd H m (.lst ([] : List V))) g (.tup xs)) H2) ⟨none, rfl, hm2, But.refl _ _⟩ (fun i σ H2 _ ⟨_, _, _, o⟩ => .inl (.inl (o _ _ hg2 gm))) ?_ ?_⟩
  · rintro i x σ H2 hi ⟨x2, rfl, h2, o2'⟩
    obtain ⟨t, ht, T⟩ := A1.get hi
    have tm := List.mem_of_getElem? ht
    have pl := ok.pl t tm
    have T2 : TmAt H2 x t := T.mono fun b zs z => o2' _ _ (s2 _ _ (s1 _ _ z)) (ne_of_none z mN)
    have tk : a.ts.take (i + 1) = a.ts.take i ++ [t] := by rw [List.take_add_one, ht]; rfl
    have hv : hvars (a.ts.take (i + 1)) = hvars (a.ts.take i) ++ t.nums := by rw [tk]; simp [hvars]
    have few : (hvars (a.ts.take i)).length ≤ 10 := by
      have each : ∀ l : List Tm, (∀ t ∈ l, t.plain) → (hvars l).length ≤ 2 * l.length := by
        intro l
        induction l with
        | nil => intro _; simp [hvars]
        | cons t l ih =>
          intro h
          have a1 := plain_few (h t (by simp))
          have a2 := ih fun u hu => h u (by simp [hu])
          simp only [hvars, List.flatMap_cons, List.length_append, List.length_cons] at a2 ⊢
          omega
      have := each (a.ts.take i) fun t ht => ok.pl t (List.mem_of_mem_take ht)
      rw [List.length_take] at this
      omega
    refine ⟨_, rfl, .inl ⟨rfl, _, .inl (.inl h2)⟩, ?_⟩
    have fin : ∀ (zs : List V) (H3 : Hp), zs = t.nums.map V.int → Same H2 H3 → ∃ x2 : Option V, ([some (.ref p), some (.ref m), some x] : List (Option V)) = [some (.ref p), some (.ref m), x2] ∧ (upd H3 m (.lst ((hvars (a.ts.take i)).map V.int ++ zs))) m = some (.lst ((hvars (a.ts.take (i + 1))).map V.int)) ∧ But m (upd (upd H m (.lst ([] : List V))) g (.tup xs)) (upd H3 m (.lst ((hvars (a.ts.take i)).map V.int ++ zs))) := by
      intro zs H3 e s3
      refine ⟨_, rfl, ?_, fun c o z nc => ?_⟩
      · rw [upd_same, e, hv, List.map_append]
      · rw [upd_ne nc]; exact s3 _ _ (o2' _ _ z nc)
    rcases T2.ty (K := K) with ⟨n, rfl, rfl⟩ | ⟨c, ys, rfl, hc, ty, no⟩
    · refine ⟨_, rfl, _, _, _, _, true, rfl, .ty "int", .base (.int n), kit_ii, true, rfl, iteT ?_⟩
      refine ⟨_, rfl, (by show 1 ≤ sizeLine; decide), fun l hl => ?_⟩
      have s3 := same_new hl (.lst [V.int n])
      exact .inl ⟨m, l, _, _, rfl, rfl, s3 _ _ h2, upd_same, by rw [List.length_map, List.length_singleton]; omega, fin [V.int n] _ rfl s3⟩
    · obtain ⟨a', ks, e, ha', hk, hks⟩ := T2.tupled no
      cases e
      refine ⟨_, rfl, _, _, _, _, false, rfl, .ty "int", ty, kit_ti, false, rfl, iteF ?_⟩
      refine ⟨_, rfl, 1, rfl, c, _, rfl, .inl (.inl ha'), cut_part _ _, fun l hl => ?_⟩
      rw [cut_tail]
      have s3 := same_new hl (.tup ks)
      have ek : ks = t.nums.map V.int := by
        match t, pl, hk, hks with
        | .z, _, hk, _ => exact List.eq_nil_iff_length_eq_zero.mpr hk
        | .v n, _, _, _ => exact absurd rfl (no n)
        | .s (.v n), _, hk, hks =>
          match ks, hk with
          | [k], _ =>
            have := hks 0 k (.v n) rfl rfl
            cases this
            rfl
        | .f (.v n) (.v n'), _, hk, hks =>
          match ks, hk with
          | [k, k'], _ =>
            have h1 := hks 0 k (.v n) rfl rfl
            have h2 := hks 1 k' (.v n') rfl rfl
            cases h1
            cases h2
            rfl
      have kl : ks.length ≤ 2 := by rw [ek, List.length_map]; exact plain_few pl
      exact .inr ⟨m, l, _, ks, rfl, rfl, s3 _ _ h2, .inl (.inl upd_same), by rw [List.length_map]; omega, fin ks _ ek s3⟩
  · rintro σ H2 ⟨x2, rfl, h2, o2'⟩
    rw [xl, List.take_of_length_le (Nat.le_refl _)] at h2
    exact ⟨_, rfl, q m H2 hm h2 fun c o z => o2' _ _ (s2 _ _ (s1 _ _ z)) (ne_of_none z mN)⟩
end
end Rp

set_option maxHeartbeats 8000000
namespace Rp
open PySem PySem.Spec PyProof.Rows L2 TL StX
def spIsHead : Sp := fun vs H Q _ => ∃ (v : V) (a : At), vs = [v] ∧ AtAt H v a ∧ HdOk a ∧ ∀ H', Same H H' → Q (.bl true) H'
theorem dp_ints {K : PySem.W.Frag} {H : Hp} : ∀ l : List Int, DpAll K H (l.map V.int) (l.map PyData.int)
  | [] => .nil
  | x :: l => .cons (.int x) (dp_ints l)
theorem ints_lay : ∀ l : List Int, PyData.canLayAll0 (l.map PyData.int) = true ∧ PyData.depthAll (l.map PyData.int) = 0
  | [] => ⟨rfl, rfl⟩
  | x :: l => by
    have ih := ints_lay l
    simp only [List.map_cons, PyData.canLayAll0, PyData.canLay0, PyData.depthAll, PyData.depth, ih.1, ih.2]
    exact ⟨rfl, rfl⟩
theorem ints_shaped (l : List Int) : SeqAt.shaped (.list (l.map PyData.int)) = true := by
  refine shaped_of ?_ ?_
  · show PyData.canLayAll0 _ = true
    exact (ints_lay l).1
  · show PyData.depthAll _ + 1 ≤ 64
    rw [(ints_lay l).2]
    decide
theorem eqv_ints : ∀ l : List Int, PyData.eqvAll (l.map PyData.int) (l.map PyData.int) = true
  | [] => eqvAll_nil
  | x :: l => by rw [List.map_cons, eqvAll_cons, eqv_int, eqv_ints l]; simp
theorem atAt_same {H H' : Hp} {v : V} {a : At} (h : AtAt H v a) (s : Same H H') : AtAt H' v a := by
  obtain ⟨p, xs, e, h1, h2⟩ := h
  exact ⟨p, xs, e, s _ _ h1, h2.mono fun b zs z => s _ _ z⟩
theorem hvars_few {a : At} (ok : HdOk a) : (hvars a.ts).length ≤ 4 := by
  have each : ∀ l : List Tm, (∀ t ∈ l, t.plain) → (hvars l).length ≤ 2 * l.length := by
    intro l
    induction l with
    | nil => intro _; simp [hvars]
    | cons t l ih =>
      intro h
      have a1 := plain_few (h t (by simp))
      have a2 := ih fun u hu => h u (by simp [hu])
      simp only [hvars, List.flatMap_cons, List.length_append, List.length_cons] at a2 ⊢
      omega
  have := each a.ts ok.pl
  have := ok.two
  omega
section
variable {P : Program} {w : World} {K : PySem.W.Frag} {mg : Str → Option Value} {base : Heap}
theorem scIsHead : FnScope ["thing", "found"] ["thing"] (defScope sIsHead) := ⟨rfl, rfl, rfl, by decide +kernel, rfl, by decide +kernel, by decide +kernel⟩
theorem ok_ishead {f fA fV : Addr} {fd dA dV : FuncData} (F : Fun K "_is_head" "_is_head" sIsHead f fd)
    (GA : FnOk P w K mg base CX0 4 fA dA ["thing"] spIsAtom) (kA : PySem.W.keepIn K (.ref fA) = true) (bA : Binds K dA ["thing"] []) (mA : mg "is_atom" = some (.ref fA))
    (GV : FnOk P w K mg base CX0 1 fV dV ["head"] spHeadVars) (kV : PySem.W.keepIn K (.ref fV) = true) (bV : Binds K dV ["head"] []) (mV : mg "_head_variables" = some (.ref fV)) (mList : mg "list" = none) (mRange : mg "range" = none) (mLen : mg "len" = none) : FnOk P w K mg base CX0 5 f fd ["thing"] spIsHead := by
  refine F.ok scIsHead (fun vs H Q E h => ?_) (fun cdv A outer s H vs Q E hr h => ?_)
  · obtain ⟨v, a, rfl, _⟩ := h
    rfl
  obtain ⟨v, a, rfl, A1, ok, q⟩ := h
  have r1 : Room 1 _ := hr.mono (by decide)
  refine ⟨_, pss_cons (ps_if (pt_not (pt_val (pe_call GA hr rfl mA kA bA .nil pass0 (pa_cons (pv 0) pa_nil)))) (pss_one (ps_ret pe_bl)) pss_nil)
    (pss_cons (ps_set (i := 1) scIsHead.nd rfl (Or.inl rfl) (pe_call GV r1 rfl mV kV bV .nil pass0 (pa_cons (pv 0) pa_nil)))
    (pss_one (ps_ret (pe_cmpR (op_eqD hr.units) (pv 1) (pe_listRg rfl (by rfl) mList (prg_1 (by rfl) mRange (pe_callB call_len_seq (by rfl) mLen PySem.boot_len (pa_cons (pv 1) pa_nil)))) (nomark _))))), ?_⟩
  refine ⟨_, rfl, v, a, rfl, A1, ok.toAtOk, fun H1 s1 => ⟨true, rfl, iteF ?_⟩⟩
  refine ⟨_, rfl, v, a, rfl, atAt_same A1 s1, ok, fun p H2 hp h2 s2 => ?_⟩
  have few := hvars_few ok
  have fl : (((hvars a.ts).map V.int).length : Int) ≤ 4 := by rw [List.length_map]; omega
  refine ⟨_, rfl, _, rfl, p, _, rfl, .inl (.inl (.inl h2)), _, rfl, RgOk.of_le (by decide) (by omega) (by decide) (by omega), fun g hg => ?_⟩
  have s3 := same_new hg (.lst (rgV 0 (((hvars a.ts).map V.int).length : Nat)))
  have e : rgV 0 (((hvars a.ts).map V.int).length : Nat) = (hvars a.ts).map V.int := by
    unfold rgV
    rw [List.length_map, show ((((hvars a.ts).length : Nat) : Int) - 0).toNat = (hvars a.ts).length by omega]
    conv => rhs; rw [ok.rng]
    rw [List.map_map]
    refine List.map_congr_left fun i _ => ?_
    show V.int (0 + (i : Int)) = V.int (Int.ofNat i)
    rw [Int.zero_add]
    rfl
  refine ⟨.list ((hvars a.ts).map PyData.int), .list ((hvars a.ts).map PyData.int), .lst (.inl (.inl (s3 _ _ h2))) (dp_ints _), .lst (.inl (.inl (by rw [upd_same, e]))) (dp_ints _), ints_shaped _, ints_shaped _, ?_⟩
  have ev : PyData.eqv (.list ((hvars a.ts).map PyData.int)) (.list ((hvars a.ts).map PyData.int)) = true := by
    simp only [PyData.eqv]
    exact eqv_ints _
  rw [ev]
  exact q _ (s1.trans (s2.trans s3))
end
end Rp

set_option maxHeartbeats 8000000
namespace Rp
open PySem PySem.Spec PyProof.Rows L2 TL StX
theorem walk_tup {K : PySem.W.Frag} {a : Addr} {xs : List V} {B : V → Hp → (Hp → Prop) → Prop} {H1 : Hp} {Done : Hp → Prop} (Pv : Nat → Hp → Prop) (h0 : Pv 0 H1) (hl : ∀ i H, i ≤ xs.length → Pv i H → SqT K H a xs)
    (hs : ∀ i x H, xs[i]? = some x → Pv i H → B x H (Pv (i + 1))) (hd : ∀ H, Pv xs.length H → Done H) :
    ∃ W : Nat → Nat → Hp → Prop, (∃ m, W 0 m H1) ∧ ∀ i m H, W i m H →
      ((Itt K a).stop i H ∧ Done H) ∨ ((Itt K a).go i H ∧ ∃ Nx : Hp → Prop, (∀ H', Nx H' → ∃ m', m' < m ∧ W (i + 1) m' H') ∧ ∀ x H', (Itt K a).yld i H x H' → B x H' Nx) := by
  refine ⟨fun i m H => m = xs.length - i ∧ i ≤ xs.length ∧ Pv i H, ⟨xs.length, by simp, Nat.zero_le _, h0⟩, ?_⟩
  rintro i m H ⟨rfl, hi, p⟩
  have q := hl i H hi p
  by_cases hlt : i < xs.length
  · refine .inr ⟨⟨xs, xs[i], q, by simp [hlt]⟩, Pv (i + 1), fun H' p' => ⟨xs.length - (i + 1), by omega, rfl, hlt, p'⟩, fun x H' y => ?_⟩
    obtain ⟨e, y⟩ := y
    subst e
    exact hs i x _ (y xs q) p
  · have e : i = xs.length := by omega
    subst e
    exact .inl ⟨⟨xs, q, Nat.le_refl _⟩, hd H p⟩
def AtsAt (H : Hp) : List V → List At → Prop
  | [], [] => True
  | v :: xs, a :: as => AtAt H v a ∧ AtsAt H xs as
  | _, _ => False
theorem AtsAt.len {H : Hp} : ∀ {xs : List V} {as : List At}, AtsAt H xs as → xs.length = as.length
  | [], [], _ => rfl
  | _ :: _, _ :: _, h => congrArg (· + 1) (AtsAt.len h.2)
theorem AtsAt.same {H H' : Hp} (s : Same H H') : ∀ {xs : List V} {as : List At}, AtsAt H xs as → AtsAt H' xs as
  | [], [], _ => trivial
  | _ :: _, _ :: _, h => ⟨atAt_same h.1 s, AtsAt.same s h.2⟩
theorem AtsAt.get {H : Hp} : ∀ {xs : List V} {as : List At} {i : Nat} {x : V}, AtsAt H xs as → xs[i]? = some x → ∃ a, as[i]? = some a ∧ AtAt H x a
  | v :: xs, a :: as, 0, x, h, e => ⟨a, rfl, by have : v = x := by simpa using e
                                                subst this; exact h.1⟩
  | _ :: xs, _ :: as, i + 1, x, h, e => by simpa using AtsAt.get h.2 (by simpa using e)
theorem AtsAt.append {H : Hp} : ∀ {xs ys : List V} {as bs : List At}, AtsAt H xs as → AtsAt H ys bs → AtsAt H (xs ++ ys) (as ++ bs)
  | [], _, [], _, _, h => h
  | _ :: xs, _, _ :: as, _, h, h' => ⟨h.1, AtsAt.append h.2 h'⟩
structure BodyOk (ks : List Int) (as : List At) : Prop where
  few : as.length ≤ 3
  ok : ∀ a ∈ as, AtOk 50 a
  vs : ∀ a ∈ as, ∀ t ∈ a.ts, ∃ i ∈ ks, t = Tm.v i
def spIsBody : Sp := fun vs H Q _ => ∃ (p q : Addr) (xs : List V) (as : List At) (ks : List Int), vs = [.ref p, .ref q] ∧ H p = some (.tup xs) ∧ AtsAt H xs as ∧ H q = some (.lst (ks.map V.int)) ∧ BodyOk ks as ∧ ∀ H', Same H H' → Q (.bl true) H'
theorem inV_int {i : Int} {ks : List Int} (h : i ∈ ks) : inV (.int i) (ks.map V.int) = true := by
  unfold inV
  rw [List.any_eq_true]
  exact ⟨.int i, List.mem_map.mpr ⟨i, h, rfl⟩, by simp [eqV]⟩
section
variable {P : Program} {w : World} {K : PySem.W.Frag} {mg : Str → Option Value} {base : Heap}
theorem scIsBody : FnScope ["thing", "known", "atom", "term"] ["thing", "known"] (defScope sIsBody) := ⟨rfl, rfl, rfl, by decide +kernel, rfl, by decide +kernel, by decide +kernel⟩
theorem ok_isbody {f fA : Addr} {fd dA : FuncData} {t3 : Tok} (F : Fun K "_is_body" "_is_body" sIsBody f fd)
    (GA : FnOk P w K mg base CX0 4 fA dA ["thing"] spIsAtom) (kA : PySem.W.keepIn K (.ref fA) = true) (bA : Binds K dA ["thing"] []) (mA : mg "is_atom" = some (.ref fA))
    (mB : mg "MOST_BODY" = some (.int 3 t3)) (M : SameG mg) : FnOk P w K mg base CX0 5 f fd ["thing", "known"] spIsBody := by
  refine F.ok scIsBody (fun vs H Q E h => ?_) (fun cdv A outer s H vs Q E hr h => ?_)
  · obtain ⟨p, q, xs, as, ks, rfl, _⟩ := h
    rfl
  obtain ⟨p, q, xs, as, ks, rfl, hp, A1, hq, ok, fin⟩ := h
  refine ⟨_, pss_cons (ps_if (PW.pt (pw_or (pt_not (pt_val (pe_callB (id := "isinstance") call_isi (by rfl) M.isi (by decide +kernel) (pa_cons (pv 0) (pa_cons (pe_bltn (v := .ty "tuple") (by rfl) M.tuple (by decide +kernel) rfl) pa_nil)))))
      (pw_or (pt_cmpR op_gt (pe_callB call_len_seq (by rfl) M.len PySem.boot_len (pa_cons (pv 0) pa_nil)) (pe_glob (v := .int 3) (by rfl) mB ⟨_, rfl⟩) (nomark _))
        (pw_or1 (pt_not (pt_val (pe_callB (cr_all rfl) (by rfl) M.all (by decide +kernel) (pa_cons (pe_lc (own := [("atom", 2)]) (g := gName 2) (tt := tYes) (te := tCall spIsAtom [] E0 (tCons (tVar 2) tNil)) rfl scIsBody.nd
          (pi_tup (pv 0)) (blkOk_by (N := ["thing", "known", "atom", "term"]) (sc := defScope sIsBody) (by decide +kernel)) (fun _ _ _ _ _ => pg_name (i := 2) scIsBody.nd rfl (Or.inl rfl))
          (fun _ _ _ _ _ => pts_nil) (fun _ _ _ _ _ => pe_call GA hr (by rfl) mA kA bA .nil pass0 (pa_cons (pv 2) pa_nil))) pa_nil)))))))) (pss_one (ps_ret pe_bl)) pss_nil)
    (pss_one (ps_ret (pe_callB (cr_all rfl) (by rfl) M.all (by decide +kernel) (pa_cons (pe_lc2 (own := [("atom", 2), ("term", 3)]) (vs1 := [3]) (g := gName 2) (tt := tYes) (wi1 := iTup K (tSl (rSlT K) (tVar 2) (tPart (tC (.int 1))) tNoPart)) (g1 := gName 3) (tt1 := tYes) (te := tOp (rIn K false) (tVar 3) (tVar 1)) rfl scIsBody.nd
          (pi_tup (pv 0)) (blkOk_by (N := ["thing", "known", "atom", "term"]) (sc := defScope sIsBody) (by decide +kernel)) (by decide) (fun _ _ _ _ _ => pg_name (i := 2) scIsBody.nd rfl (Or.inl rfl)) (fun _ _ _ _ _ => pts_nil)
          (fun _ _ _ _ _ => pi_tup (pe_slice sl_tup (pv 2) (po_some pe_int) po_none)) (fun _ _ _ _ _ => pg_name (i := 3) scIsBody.nd rfl (Or.inl rfl)) (fun _ _ _ _ _ => pts_nil)
          (fun _ _ _ _ _ => pe_cmpR op_in_seq (pv 3) (pv 1) (by rfl))) pa_nil)))), ?_⟩
  have big : (10000 : Nat) ≤ sizeLine := by decide
  have xl := A1.len
  have o3 := ok.few
  refine ⟨_, rfl, _, _, _, _, true, rfl, .ty "tuple", .base (.tup hp), kit_ty (by decide +kernel), true, rfl, iteF ?_⟩
  refine ⟨_, rfl, p, xs, rfl, .inr (.inl (.inl hp)), _, _, rfl, rfl, false, congrArg V.bl (decide_eq_false (by omega)), iteF ?_⟩
  refine ⟨_, rfl, p, rfl, ⟨_, .inl (.inl hp)⟩, fun D hD => lc_tup (K := K) (a := p) (xs := xs) (fun i H2 => H2 D = some (.lst (List.replicate i (V.bl true))) ∧ Same H H2) ⟨upd_same, same_new hD _⟩ (fun i H2 _ h => .inl (.inl (h.2 _ _ hp))) ?_ ?_⟩
  · rintro i x H2 hi ⟨h2, s3⟩
    obtain ⟨a, ha, T⟩ := A1.get hi
    have li : i < xs.length := (List.getElem?_eq_some_iff.mp hi).1
    refine ⟨rfl, ?_⟩
    refine ⟨_, rfl, x, a, rfl, atAt_same T s3, ok.ok a (List.mem_of_getElem? ha), fun H3 s4 => ⟨_, s4 _ _ h2, ?_, ?_, ?_⟩⟩
    · rw [List.length_replicate]; omega
    · rw [upd_same, List.replicate_succ']
    · intro c o z
      rw [upd_ne (ne_of_none z hD)]
      exact s4 _ _ (s3 _ _ z)
  · rintro H2 ⟨h2, s2⟩
    have e : ∀ n, (List.replicate n true).all id = true := fun n => by rw [List.all_eq_true]; intro x hx; rw [List.eq_of_mem_replicate hx]; rfl
    refine ⟨D, List.replicate _ true, rfl, .inl (.inl (by rw [List.map_replicate]; exact h2)), ?_⟩
    rw [e]
    refine ⟨true, rfl, iteF ?_⟩
    refine ⟨_, rfl, p, rfl, ⟨_, .inl (.inl (s2 _ _ hp))⟩, fun D2 hD2 => walk_tup (K := K) (a := p) (xs := xs) (fun i H3 => ∃ n, n ≤ 2 * i ∧ H3 D2 = some (.lst (List.replicate n (V.bl true))) ∧ Same H H3) ⟨0, Nat.le_refl _, upd_same, s2.trans (same_new hD2 _)⟩ (fun i H3 _ ⟨_, _, _, h⟩ => .inl (.inl (h _ _ hp))) ?_ ?_⟩
    · rintro i x H3 hi ⟨n, hn, h3, s3⟩
      obtain ⟨a, ha, T⟩ := A1.get hi
      have li : i < xs.length := (List.getElem?_eq_some_iff.mp hi).1
      have am := List.mem_of_getElem? ha
      have o2 := (ok.ok a am).two
      obtain ⟨b, ys, rfl, hb, AT⟩ := atAt_same T s3
      have yl := AT.len
      refine ⟨rfl, ?_⟩
      refine ⟨_, rfl, 1, rfl, b, _, rfl, .inl (.inl hb), cut_part _ _, fun g hg => ?_⟩
      rw [cut_tail]
      have s4 := same_new hg (.tup ys)
      have gD : g ≠ D2 := (ne_of_none h3 hg).symm
      have qD : q ≠ D2 := ne_of_none (s2 _ _ hq) hD2
      refine ⟨g, rfl, ⟨_, .inl (.inl upd_same)⟩, ?_⟩
      refine walk_tup (K := K) (a := g) (xs := ys) (fun j H4 => H4 D2 = some (.lst (List.replicate (n + j) (V.bl true))) ∧ But D2 (upd H3 g (.tup ys)) H4) ⟨s4 _ _ h3, But.refl _ _⟩ (fun j H4 _ h => .inl (.inl (h.2 _ _ upd_same gD))) ?_ ?_
      · rintro j y H4 hj ⟨h4, s5⟩
        obtain ⟨t, ht, TT⟩ := AT.get hj
        have lj : j < ys.length := (List.getElem?_eq_some_iff.mp hj).1
        obtain ⟨i0, hi0, rfl⟩ := ok.vs a am t (List.mem_of_getElem? ht)
        obtain rfl : y = .int i0 := by cases TT; rfl
        refine ⟨rfl, ?_⟩
        refine ⟨_, rfl, _, rfl, q, _, rfl, .inl (.inl (.inl (s5 _ _ (s4 _ _ (s3 _ _ hq)) qD))), rfl, by simp [flatV], _, h4, ?_, ?_, ?_⟩
        · rw [List.length_replicate]; omega
        · rw [upd_same, if_neg Bool.false_ne_true, inV_int hi0, ← List.replicate_succ']; rfl
        · intro c o z hc
          rw [upd_ne hc]
          exact s5 _ _ z hc
      · rintro H4 ⟨h4, s5⟩
        refine ⟨n + ys.length, by omega, h4, fun c o z => s5 _ _ (s4 _ _ (s3 _ _ z)) (ne_of_none (s2 _ _ z) hD2)⟩
    · rintro H3 ⟨n, hn, h3, s3⟩
      refine ⟨D2, List.replicate n true, rfl, .inl (.inl (by rw [List.map_replicate]; exact h3)), ?_⟩
      rw [e]
      exact fin H3 s3
end
end Rp

set_option maxHeartbeats 8000000
namespace Rp
open PySem PySem.Spec PyProof.Rows L2 TL StX
structure Ru where
  hd : At
  bd : List At
def RuAt (H : Hp) (v : V) (r : Ru) : Prop := ∃ (p q : Addr) (vh : V) (xs : List V), v = .ref p ∧ H p = some (.tup [vh, .ref q]) ∧ AtAt H vh r.hd ∧ H q = some (.tup xs) ∧ AtsAt H xs r.bd
structure RuOk (r : Ru) : Prop where
  hd : HdOk r.hd
  bd : BodyOk (hvars r.hd.ts) r.bd
theorem RuAt.same {H H' : Hp} {v : V} {r : Ru} (h : RuAt H v r) (s : Same H H') : RuAt H' v r := by
  obtain ⟨p, q, vh, xs, e, h1, h2, h3, h4⟩ := h
  exact ⟨p, q, vh, xs, e, s _ _ h1, atAt_same h2 s, s _ _ h3, h4.same s⟩
def spIsRule : Sp := fun vs H Q _ => ∃ (v : V) (r : Ru), vs = [v] ∧ RuAt H v r ∧ RuOk r ∧ ∀ H', Same H H' → Q (.bl true) H'
section
variable {P : Program} {w : World} {K : PySem.W.Frag} {mg : Str → Option Value} {base : Heap}
theorem scIsRule : FnScope ["thing"] ["thing"] (defScope sIsRule) := ⟨rfl, rfl, rfl, by decide +kernel, rfl, by decide +kernel, by decide +kernel⟩
theorem ok_isrule {f fH fV fB : Addr} {fd dH dV dB : FuncData} (F : Fun K "is_rule" "is_rule" sIsRule f fd)
    (GH : FnOk P w K mg base CX0 5 fH dH ["thing"] spIsHead) (kH : PySem.W.keepIn K (.ref fH) = true) (bH : Binds K dH ["thing"] []) (mH : mg "_is_head" = some (.ref fH))
    (GV : FnOk P w K mg base CX0 1 fV dV ["head"] spHeadVars) (kV : PySem.W.keepIn K (.ref fV) = true) (bV : Binds K dV ["head"] []) (mV : mg "_head_variables" = some (.ref fV))
    (GB : FnOk P w K mg base CX0 5 fB dB ["thing", "known"] spIsBody) (kB : PySem.W.keepIn K (.ref fB) = true) (bB : Binds K dB ["thing", "known"] []) (mB : mg "_is_body" = some (.ref fB)) (M : SameG mg) : FnOk P w K mg base CX0 6 f fd ["thing"] spIsRule := by
  refine F.ok scIsRule (fun vs H Q E h => ?_) (fun cdv A outer s H vs Q E hr h => ?_)
  · obtain ⟨v, r, rfl, _⟩ := h
    rfl
  obtain ⟨v, r, rfl, ⟨p, q, vh, xs, rfl, hp, A1, hq, A2⟩, ok, fin⟩ := h
  have r1 : Room 1 _ := hr.mono (by decide)
  have r5 : Room 5 _ := hr.mono (by decide)
  refine ⟨_, pss_cons (ps_if (PW.pt (pw_or (pt_not (pt_val (pe_callB (id := "isinstance") call_isi (by rfl) M.isi (by decide +kernel) (pa_cons (pv 0) (pa_cons (pe_bltn (v := .ty "tuple") (by rfl) M.tuple (by decide +kernel) rfl) pa_nil)))))
      (pw_or (pt_cmpR op_ne (pe_callB call_len_seq (by rfl) M.len PySem.boot_len (pa_cons (pv 0) pa_nil)) pe_int (nomark _))
        (pw_or1 (pt_not (pt_val (pe_call GH r5 rfl mH kH bH .nil pass0 (pa_cons (pe_ix ix_tup (pv 0) pe_int (fun _ _ => rfl)) pa_nil)))))))) (pss_one (ps_ret pe_bl)) pss_nil)
    (pss_one (ps_ret (pe_call GB r5 rfl mB kB bB .nil pass0 (pa_cons (pe_ix ix_tup (pv 0) pe_int (fun _ _ => rfl)) (pa_cons (pe_call GV r1 rfl mV kV bV .nil pass0 (pa_cons (pe_ix ix_tup (pv 0) pe_int (fun _ _ => rfl)) pa_nil)) pa_nil))))), ?_⟩
  refine ⟨_, rfl, _, _, _, _, true, rfl, .ty "tuple", .base (.tup hp), kit_ty (by decide +kernel), true, rfl, iteF ?_⟩
  refine ⟨_, rfl, p, _, rfl, .inr (.inl (.inl hp)), rfl, false, rfl, iteF ?_⟩
  refine ⟨_, rfl, p, _, _, _, rfl, rfl, .inl (.inl hp), at_of (j := 0) rfl rfl, vh, r.hd, rfl, A1, ok.hd, fun H1 s1 => ⟨true, rfl, iteF ?_⟩⟩
  refine ⟨_, rfl, p, _, _, _, rfl, rfl, .inl (.inl (s1 _ _ hp)), at_of (j := 1) rfl rfl, _, rfl, p, _, _, _, rfl, rfl, .inl (.inl (s1 _ _ hp)), at_of (j := 0) rfl rfl, vh, r.hd, rfl, atAt_same A1 s1, ok.hd, fun d H2 hd h2 s2 => ?_⟩
  exact ⟨q, d, xs, r.bd, _, rfl, s2 _ _ (s1 _ _ hq), (A2.same s1).same s2, h2, ok.bd, fun H3 s3 => fin H3 (s1.trans (s2.trans s3))⟩
end
end Rp

set_option maxHeartbeats 8000000
namespace Rp
open PySem PySem.Spec PyProof.Rows L2 TL StX
def btxt (as : List At) : Str := Txt.join ", " (as.map atxt)
def rtxt (r : Ru) : Str := if r.bd = [] then atxt r.hd else atxt r.hd ++ " if " ++ Txt.join ", " (r.bd.map atxt)
def spRuleText : Sp := fun vs H Q _ => ∃ (v : V) (r : Ru), vs = [v] ∧ RuAt H v r ∧ RuOk r ∧ ∀ H', Same H H' → Q (.str (rtxt r)) H'
structure AtsOk (as : List At) : Prop where
  few : as.length ≤ 6
  ok : ∀ a ∈ as, AtOk 50 a
def spAtomsText : Sp := fun vs H Q _ => ∃ (q : Addr) (xs : List V) (as : List At), vs = [.ref q] ∧ H q = some (.tup xs) ∧ AtsAt H xs as ∧ AtsOk as ∧ ∀ H', Same H H' → Q (.str (btxt as)) H'
theorem BodyOk.ats {ks : List Int} {as : List At} (ok : BodyOk ks as) : AtsOk as := ⟨by have := ok.few; omega, ok.ok⟩
theorem btxt_sum {as : List At} (ok : AtsOk as) : ((as.map atxt).map (·.length)).sum ≤ 500 * as.length := by
  have each : ∀ l : List At, (∀ a ∈ l, AtOk 50 a) → ((l.map atxt).map (·.length)).sum ≤ 500 * l.length := by
    intro l
    induction l with
    | nil => intro _; simp
    | cons a l ih =>
      intro h
      have h1 := atxt_len (h a (by simp))
      have h2 := ih fun b hb => h b (by simp [hb])
      simp only [List.map_cons, List.sum_cons, List.length_cons] at h2 ⊢
      omega
  exact each as ok.ok
theorem btxt_len {as : List At} (ok : AtsOk as) : (btxt as).length ≤ 3012 := by
  unfold btxt
  have jl := StrLaws.join_length_le ", " (as.map atxt)
  have l1 : (", " : Str).length = 2 := by decide +kernel
  rw [l1, List.length_map] at jl
  have h1 := btxt_sum ok
  have h2 := ok.few
  rw [join_eq]
  omega
section
variable {P : Program} {w : World} {K : PySem.W.Frag} {mg : Str → Option Value} {base : Heap}
theorem scAtomsText : FnScope ["atoms", "atom"] ["atoms"] (defScope sAtomsText) := ⟨rfl, rfl, rfl, by decide +kernel, rfl, by decide +kernel, by decide +kernel⟩
theorem ok_atomstext {f fA : Addr} {fd dA : FuncData} (F : Fun K "atoms_text" "atoms_text" sAtomsText f fd)
    (GA : FnOk P w K mg base CX0 5 fA dA ["atom"] spAtomText) (kA : PySem.W.keepIn K (.ref fA) = true) (bA : Binds K dA ["atom"] []) (mA : mg "atom_text" = some (.ref fA)) : FnOk P w K mg base CX0 6 f fd ["atoms"] spAtomsText := by
  refine F.ok scAtomsText (fun vs H Q E h => ?_) (fun cdv A outer s H vs Q E hr h => ?_)
  · obtain ⟨q, xs, as, rfl, _⟩ := h
    rfl
  obtain ⟨q, xs, as, rfl, hq, A2, ok, fin⟩ := h
  refine ⟨_, pss_one (ps_ret (pe_bm PySem.F.plainAttrs_str PySem.F.slot_str_join PySem.F.type_str_join mt_join pe_str (pa_cons
      (pe_lc (own := [("atom", 1)]) (g := gName 1) (tt := tYes) (te := tCall spAtomText [] E0 (tCons (tVar 1) tNil)) rfl scAtomsText.nd (pi_tup (pv 0)) (blkOk_by (N := ["atoms", "atom"]) (sc := defScope sAtomsText) (by decide +kernel)) (fun _ _ _ _ _ => pg_name (i := 1) scAtomsText.nd rfl (Or.inl rfl))
        (fun _ _ _ _ _ => pts_nil) (fun _ _ _ _ _ => pe_call GA hr (by rfl) mA kA bA .nil pass0 (pa_cons (pv 1) pa_nil))) pa_nil))), ?_⟩
  have big : (10000 : Nat) ≤ sizeLine := by decide
  have xl := A2.len
  have o3 := ok.few
  refine ⟨rfl, _, rfl, q, rfl, ⟨_, .inl (.inl hq)⟩, fun D hD => lc_tup (K := K) (a := q) (xs := xs) (fun i H2 => H2 D = some (.lst (((as.take i).map atxt).map V.str)) ∧ Same H H2) ⟨upd_same, same_new hD _⟩ (fun i H2 _ h => .inl (.inl (h.2 _ _ hq))) ?_ ?_⟩
  · rintro i x H2 hi ⟨h2, s3⟩
    obtain ⟨a, ha, T⟩ := A2.get hi
    have li : i < as.length := (List.getElem?_eq_some_iff.mp ha).1
    refine ⟨rfl, ?_⟩
    refine ⟨_, rfl, x, a, rfl, atAt_same T s3, ok.ok a (List.mem_of_getElem? ha), fun H3 s4 => ⟨_, s4 _ _ h2, ?_, ?_, ?_⟩⟩
    · rw [List.length_map, List.length_map, List.length_take]; omega
    · have tk : as.take (i + 1) = as.take i ++ [a] := by rw [List.take_add_one, ha]; rfl
      rw [upd_same, tk, List.map_append, List.map_append]; rfl
    · intro c o z
      rw [upd_ne (ne_of_none z hD)]
      exact s4 _ _ (s3 _ _ z)
  · rintro H2 ⟨h2, s2⟩
    rw [show as.take xs.length = as from by rw [xl]; exact List.take_length] at h2
    have bs := btxt_sum ok
    have l2 : (", " : Str).length = 2 := by decide +kernel
    exact ⟨", ", D, as.map atxt, rfl, rfl, .inl (.inl (.inl h2)), by rw [l2, List.length_map]; omega, fin H2 s2⟩
theorem scRuleText : FnScope ["rule", "head", "body"] ["rule"] (defScope sRuleText) := ⟨rfl, rfl, rfl, by decide +kernel, rfl, by decide +kernel, by decide +kernel⟩
theorem ok_ruletext {f fA fB : Addr} {fd dA dB : FuncData} (F : Fun K "rule_text" "rule_text" sRuleText f fd)
    (GA : FnOk P w K mg base CX0 5 fA dA ["atom"] spAtomText) (kA : PySem.W.keepIn K (.ref fA) = true) (bA : Binds K dA ["atom"] []) (mA : mg "atom_text" = some (.ref fA))
    (GB : FnOk P w K mg base CX0 6 fB dB ["atoms"] spAtomsText) (kB : PySem.W.keepIn K (.ref fB) = true) (bB : Binds K dB ["atoms"] []) (mB : mg "atoms_text" = some (.ref fB)) : FnOk P w K mg base CX0 7 f fd ["rule"] spRuleText := by
  refine F.ok scRuleText (fun vs H Q E h => ?_) (fun cdv A outer s H vs Q E hr h => ?_)
  · obtain ⟨v, r, rfl, _⟩ := h
    rfl
  obtain ⟨v, r, rfl, ⟨p, q, vh, xs, rfl, hp, A1, hq, A2⟩, ok, fin⟩ := h
  have r5 : Room 5 _ := hr.mono (by decide)
  refine ⟨_, pss_cons (ps_asg (pv 0) (pg_tup (by rfl) (pgs_cons (pg_name (i := 1) scRuleText.nd rfl (Or.inl rfl)) (pgs_cons (pg_name (i := 2) scRuleText.nd rfl (Or.inl rfl)) pgs_nil))))
    (pss_cons (ps_if (pt_not (pt_truth (pv 2) (by intro _; rfl))) (pss_one (ps_ret (pe_call GA r5 rfl mA kA bA .nil pass0 (pa_cons (pv 1) pa_nil)))) pss_nil)
    (pss_one (ps_ret (pe_joined (.cons (pe_fmt (pe_call GA r5 rfl mA kA bA .nil pass0 (pa_cons (pv 1) pa_nil))) (.cons pe_str (.cons (pe_fmt (pe_call GB hr rfl mB kB bB .nil pass0 (pa_cons (pv 2) pa_nil))) .nil))))))), ?_⟩
  have big : (10000 : Nat) ≤ sizeLine := by decide
  have xl := A2.len
  have hl := atxt_len ok.hd.toAtOk
  have bl := btxt_len ok.bd.ats
  have li4 : (" if " : Str).length = 4 := by decide +kernel
  refine ⟨_, rfl, p, _, rfl, .inl (.inl hp), rfl, _, _, rfl, _, _, rfl, rfl, ?_⟩
  refine ⟨_, rfl, _, .inr (.inl ⟨_, .inl (.inl hq), rfl⟩), ?_⟩
  cases hb : r.bd with
  | nil =>
    rw [hb] at xl
    obtain rfl : xs = [] := List.length_eq_zero_iff.mp xl
    refine iteT ?_
    refine ⟨_, rfl, vh, r.hd, rfl, A1, ok.hd.toAtOk, fun H1 s1 => ?_⟩
    have e : rtxt r = atxt r.hd := if_pos hb
    rw [← e]
    exact fin H1 s1
  | cons a0 as0 =>
    have ne : r.bd ≠ [] := by rw [hb]; exact List.cons_ne_nil _ _
    have xn : xs ≠ [] := by intro z; rw [z, hb] at xl; simp at xl
    obtain ⟨x0, xs0, rfl⟩ : ∃ x0 xs0, xs = x0 :: xs0 := by
      cases xs with
      | nil => exact absurd rfl xn
      | cons x0 xs0 => exact ⟨x0, xs0, rfl⟩
    refine iteF ?_
    have e : rtxt r = atxt r.hd ++ " if " ++ btxt r.bd := if_neg ne
    refine ⟨_, rfl, vh, r.hd, rfl, A1, ok.hd.toAtOk, fun H3 s3 => .inl ⟨_, rfl, by omega, ?_⟩⟩
    refine ⟨_, rfl, ?_, _, rfl, ?_, _, rfl, q, _, r.bd, rfl, s3 _ _ hq, A2.same s3, ok.bd.ats, fun H4 s4 => .inl ⟨_, rfl, by omega, _, rfl, ?_, ?_⟩⟩
    · rw [Str.empty_append]; omega
    · rw [Str.empty_append, slen]; omega
    · rw [Str.empty_append, slen, slen]; omega
    · rw [Str.empty_append, ← e]
      exact fin H4 (s3.trans s4)
end
end Rp

set_option maxHeartbeats 8000000
/-! Texts cut at a separator of more than one sign. -/
namespace Rp
open PySem PySem.Spec PyProof.Rows L2 TL StX
/-- each s has a sign behind it, and not n -/
def Fol (s n : Nat) : List Nat → Prop
  | [] => True
  | [c] => c ≠ s
  | c :: d :: r => (c = s → d ≠ n) ∧ Fol s n (d :: r)
theorem fol_free {s n : Nat} : ∀ {p : List Nat}, s ∉ p → Fol s n p
  | [], _ => trivial
  | [c], h => fun e => h (by simp [e])
  | c :: d :: r, h => ⟨fun e => absurd (by simp [e] : s ∈ c :: d :: r) h, fol_free fun z => h (List.mem_cons_of_mem _ z)⟩
theorem fol_append {s n : Nat} : ∀ {p q : List Nat}, Fol s n p → Fol s n q → Fol s n (p ++ q)
  | [], _, _, h => h
  | [c], [], h, _ => h
  | [c], d :: q, h, h' => ⟨fun e => absurd e h, h'⟩
  | c :: d :: r, q, h, h' => ⟨h.1, fol_append (p := d :: r) h.2 h'⟩
theorem fol_cons {s n c : Nat} {q : List Nat} (hc : c ≠ n) (h : Fol s n (c :: q)) : Fol s n (s :: c :: q) := ⟨fun _ => hc, h⟩
theorem fol_pre {s n : Nat} {S q : List Nat} : ∀ {p : List Nat}, Fol s n p → ∀ i, i < p.length → pre (s :: n :: S) ((p ++ q).drop i) = false
  | [c], h, 0, _ => pre_of_head _ _ h
  | c :: d :: r, h, 0, _ => by
    by_cases e : c = s
    · have hd := h.1 e
      subst e
      show (List.take (c :: n :: S).length (c :: d :: (r ++ q)) == c :: n :: S) = false
      rw [beq_eq_false_iff_ne]
      intro z
      rw [List.length_cons, List.length_cons, List.take_succ_cons, List.take_succ_cons] at z
      exact hd (by injection z with _ z; injection z)
    · exact pre_of_head _ _ e
  | c :: d :: r, h, i + 1, hi => by
    have := fol_pre (S := S) (q := q) h.2 i (by simpa using hi)
    simpa using this
  | [c], h, i + 1, hi => by simp at hi
theorem partition_fol {y : Str} {s n : Nat} {S : List Nat} (ey : tl y = s :: n :: S) {a b : Str} (h : Fol s n (tl a)) : Txt.partition (a ++ y ++ b) y = (a, y, b) := by
  rw [partition_par _ y (by rw [ey]; simp), tl_append, tl_append, List.append_assoc, ey, par_part (by simp) (fol_pre h)]
  show ((⟨([] ++ tl a).toArray⟩ : Str), y, (⟨(tl b).toArray⟩ : Str)) = _
  rw [List.nil_append, mk_tl, mk_tl]
theorem fol_pre0 {s n : Nat} {S : List Nat} {p : List Nat} (h : Fol s n p) : ∀ i, i < p.length → pre (s :: n :: S) (p.drop i) = false := fun i hi => by
  have := fol_pre (S := S) (q := []) h i hi
  rwa [List.append_nil] at this
theorem partition_nofol {y : Str} {s n : Nat} {S : List Nat} (ey : tl y = s :: n :: S) {a : Str} (h : Fol s n (tl a)) : Txt.partition a y = (a, Str.empty, Str.empty) := by
  rw [partition_par _ y (by rw [ey]; simp), ey, par_none (fol_pre0 h)]
theorem spl_fol {s n : Nat} {S : List Nat} : ∀ {parts : List (List Nat)}, parts ≠ [] → (∀ p ∈ parts, Fol s n p) → spl (s :: n :: S) 0 [] (joinL (s :: n :: S) parts) = parts
  | [], h, _ => absurd rfl h
  | [p], _, hp => by
    show spl (s :: n :: S) 0 [] p = [p]
    rw [spl_last (fol_pre0 (hp p (List.mem_singleton.mpr rfl))), List.nil_append]
  | p :: q :: r, _, hp => by
    show spl (s :: n :: S) 0 [] (p ++ (s :: n :: S ++ joinL (s :: n :: S) (q :: r))) = p :: q :: r
    rw [spl_part (by simp) (fol_pre (hp p (List.mem_cons_self ..))), List.nil_append, spl_fol (by simp) fun z hz => hp z (List.mem_cons_of_mem _ hz)]
theorem split_fol {y : Str} {s n : Nat} {S : List Nat} (ey : tl y = s :: n :: S) (hk : y.cps.all (· < 256) = true) {parts : List Str} (hne : parts ≠ []) (hp : ∀ p ∈ parts, Fol s n (tl p)) :
    Txt.split (Txt.join y parts) y = parts := by
  refine map_tl_inj ?_
  rw [split_spl _ y (by rw [ey]; simp) (kind_ok hk), join_eq, tl_join, ey]
  refine spl_fol (fun e => hne (List.map_eq_nil_iff.mp e)) fun p h => ?_
  obtain ⟨z, hz, rfl⟩ := List.mem_map.mp h
  exact hp z hz
/-! The texts of terms and atoms. -/
theorem txt_head : ∀ t : Tm, ∃ c q, tl t.txt = c :: q ∧ c ≠ 105 ∧ c ≠ 32
  | .v n => ⟨120, tl (Str.ofString (toString n)), by show tl (("x" : Str) ++ Str.ofString (toString n)) = _; rw [tl_append, t_x]; rfl, by decide, by decide⟩
  | .z => ⟨48, [], t_0, by decide, by decide⟩
  | .s t => ⟨115, tl ("(" ++ Txt.join "," [t.txt] ++ ")"), by show tl (("s" : Str) ++ "(" ++ Txt.join "," [t.txt] ++ ")") = _; simp only [tl_append, t_s]; rfl, by decide, by decide⟩
  | .f l r => ⟨102, tl ("(" ++ Txt.join "," [l.txt, r.txt] ++ ")"), by show tl (("f" : Str) ++ "(" ++ Txt.join "," [l.txt, r.txt] ++ ")") = _; simp only [tl_append, t_f]; rfl, by decide, by decide⟩
theorem txt_fol : ∀ (t : Tm), t.small → Fol 44 32 (tl t.txt)
  | .v n, h => by
    show Fol 44 32 (tl (("x" : Str) ++ Str.ofString (toString n)))
    rw [tl_append, t_x, tl_int (h n (by simp [Tm.nums])).1]
    refine fol_free fun hd => ?_
    rcases List.mem_append.mp hd with hd | hd
    · simp at hd
    · have := numL_small _ _ hd; omega
  | .z, h => by
    show Fol 44 32 (tl ("0" : Str))
    rw [t_0]
    exact fol_free (by simp)
  | .s t, h => by
    show Fol 44 32 (tl (("s" : Str) ++ "(" ++ Txt.join "," [t.txt] ++ ")"))
    rw [join1, tl_append, tl_append, tl_append, t_s, t_open, t_close]
    exact fol_append (fol_append (fol_free (by simp)) (txt_fol t h)) (fol_free (by simp))
  | .f l r, h => by
    show Fol 44 32 (tl (("f" : Str) ++ "(" ++ Txt.join "," [l.txt, r.txt] ++ ")"))
    rw [join2, tl_append, tl_append, tl_append, tl_append, tl_append, t_f, t_open, t_close, t_comma]
    have hl := txt_fol l (fun n hn => h n (by simp [Tm.nums, hn]))
    have hr := txt_fol r (fun n hn => h n (by simp [Tm.nums, hn]))
    obtain ⟨c, q, e, _, c2⟩ := txt_head r
    have hc : Fol 44 32 ([44] ++ tl r.txt) := by
      rw [e] at hr ⊢
      exact fol_cons c2 hr
    rw [List.append_assoc (tl l.txt)]
    exact fol_append (fol_append (fol_free (by simp)) (fol_append hl hc)) (fol_free (by simp))
theorem join_parts (x : Str) : ∀ l : List Str, tl (Txt.join " " (x :: l)) = tl x ++ l.flatMap fun p => 32 :: tl p
  | [] => by rw [join1]; simp
  | y :: l => by
    have ih := join_parts y l
    rw [TL.join_eq] at ih ⊢
    show tl (x ++ " " ++ Str.join " " (y :: l)) = _
    rw [tl_append, tl_append, ih, t_sp]
    simp
theorem atxt_tl (a : At) : tl (atxt a) = tl a.nm ++ a.ts.flatMap fun t => 32 :: tl t.txt := by
  unfold atxt parts
  rw [join_parts, List.flatMap_map]
theorem atxt_if {z : Nat} {a : At} (ok : AtOk z a) : Fol 32 105 (tl (atxt a)) := by
  rw [atxt_tl]
  refine fol_append (fol_free fun hd => ?_) ?_
  · have := ok.nm.low _ hd; omega
  · have each : ∀ l : List Tm, (∀ t ∈ l, t.small) → Fol 32 105 (l.flatMap fun t => 32 :: tl t.txt) := by
      intro l
      induction l with
      | nil => intro _; trivial
      | cons t l ih =>
        intro h
        rw [List.flatMap_cons]
        refine fol_append ?_ (ih fun u hu => h u (by simp [hu]))
        obtain ⟨c, q, e, c1, _⟩ := txt_head t
        have lo : Fol 32 105 (tl t.txt) := fol_free fun hd => by have := txt_low t (h t (by simp)) _ hd; omega
        rw [e] at lo ⊢
        exact fol_cons c1 lo
    exact each a.ts fun t ht => (ok.sm t ht).1
theorem atxt_com {z : Nat} {a : At} (ok : AtOk z a) : Fol 44 32 (tl (atxt a)) := by
  rw [atxt_tl]
  refine fol_append (fol_free fun hd => ?_) ?_
  · have := ok.nm.low _ hd; omega
  · have each : ∀ l : List Tm, (∀ t ∈ l, t.small) → Fol 44 32 (l.flatMap fun t => 32 :: tl t.txt) := by
      intro l
      induction l with
      | nil => intro _; trivial
      | cons t l ih =>
        intro h
        rw [List.flatMap_cons]
        exact fol_append (p := [32] ++ tl t.txt) (fol_append (fol_free (by simp)) (txt_fol t (h t (by simp)))) (ih fun u hu => h u (by simp [hu]))
    exact each a.ts fun t ht => (ok.sm t ht).1
theorem t_if : tl (" if " : Str) = [32, 105, 102, 32] := by decide +kernel
theorem t_cs : tl (", " : Str) = [44, 32] := by decide +kernel
end Rp

set_option maxHeartbeats 8000000
namespace Rp
open PySem PySem.Spec PyProof.Rows L2 TL StX
theorem atAt_mono {H H' : Hp} (e : ∀ a xs, H a = some (.tup xs) → H' a = some (.tup xs)) {v : V} {a : At} (h : AtAt H v a) : AtAt H' v a := by
  obtain ⟨p, xs, r, h1, h2⟩ := h
  exact ⟨p, xs, r, e _ _ h1, h2.mono e⟩
theorem AtsAt.mono {H H' : Hp} (e : ∀ a xs, H a = some (.tup xs) → H' a = some (.tup xs)) : ∀ {xs : List V} {as : List At}, AtsAt H xs as → AtsAt H' xs as
  | [], [], _ => trivial
  | _ :: _, _ :: _, h => ⟨atAt_mono e h.1, AtsAt.mono e h.2⟩
theorem rtxt_part0 {r : Ru} (ok : RuOk r) (e : r.bd = []) : Txt.partition (rtxt r) " if " = (atxt r.hd, Str.empty, Str.empty) := by
  unfold rtxt
  rw [if_pos e]
  exact partition_nofol t_if (atxt_if ok.hd.toAtOk)
theorem rtxt_part1 {r : Ru} (ok : RuOk r) (e : r.bd ≠ []) : Txt.partition (rtxt r) " if " = (atxt r.hd, (" if " : Str), btxt r.bd) := by
  unfold rtxt
  rw [if_neg e]
  exact partition_fol t_if (atxt_if ok.hd.toAtOk)
theorem btxt_split {as : List At} (ok : AtsOk as) (e : as ≠ []) : Txt.split (btxt as) ", " = as.map atxt := by
  refine split_fol t_cs (by decide +kernel) (by simpa using e) fun p hp => ?_
  obtain ⟨a, ha, rfl⟩ := List.mem_map.mp hp
  exact atxt_com (ok.ok a ha)
theorem rtxt_len {r : Ru} (ok : RuOk r) : (rtxt r).length ≤ 3600 := by
  have h1 := atxt_len ok.hd.toAtOk
  have h2 : (Txt.join ", " (r.bd.map atxt)).length ≤ 3012 := btxt_len ok.bd.ats
  have l4 : (" if " : Str).length = 4 := by decide +kernel
  unfold rtxt
  split
  · omega
  · rw [slen, slen]; omega
def spRuleOr : Sp := fun vs H Q _ => ∃ r : Ru, vs = [.str (rtxt r)] ∧ RuOk r ∧ ∀ (v : V) (H' : Hp), RuAt H' v r → Same H H' → Q v H'
def spAtomsOr : Sp := fun vs H Q _ => ∃ as : List At, vs = [.str (btxt as)] ∧ AtsOk as ∧ as ≠ [] ∧ ∀ (b : Addr) (xs : List V) (H' : Hp), H' b = some (.tup xs) → AtsAt H' xs as → Same H H' → Q (.ref b) H'
section
variable {P : Program} {w : World} {K : PySem.W.Frag} {mg : Str → Option Value} {base : Heap}
theorem scAtomsOr : FnScope ["text", "part"] ["text"] (defScope sAtomsOr) := ⟨rfl, rfl, rfl, by decide +kernel, rfl, by decide +kernel, by decide +kernel⟩
theorem ok_atomsor {f fA : Addr} {fd dA : FuncData} (F : Fun K "atoms_or_nones" "atoms_or_nones" sAtomsOr f fd)
    (GA : FnOk P w K mg base CX0 6 fA dA ["text"] spAtomOr) (kA : PySem.W.keepIn K (.ref fA) = true) (bA : Binds K dA ["text"] []) (mA : mg "atom_or_none" = some (.ref fA)) (mTuple : mg "tuple" = none) : FnOk P w K mg base CX0 7 f fd ["text"] spAtomsOr := by
  refine F.ok scAtomsOr (fun vs H Q E h => ?_) (fun cdv A outer s H vs Q E hr h => ?_)
  · obtain ⟨as, rfl, _⟩ := h
    rfl
  obtain ⟨as, rfl, ok, e, q⟩ := h
  refine ⟨_, pss_one (ps_ret (pe_callTy call_tuple_of (by rfl) mTuple (by decide +kernel) (pa_cons (pe_lc (own := [("part", 1)]) (g := gName 1) (tt := tYes) (te := tCall spAtomOr [] E0 (tCons (tVar 1) tNil)) rfl scAtomsOr.nd
        (pi_list (pe_split (pv 0) pe_str)) (blkOk_by (N := ["text", "part"]) (sc := defScope sAtomsOr) (by decide +kernel)) (fun _ _ _ _ _ => pg_name (i := 1) scAtomsOr.nd rfl (Or.inl rfl))
        (fun _ _ _ _ _ => pts_nil) (fun _ _ _ _ _ => pe_call GA hr (by rfl) mA kA bA .nil pass0 (pa_cons (pv 1) pa_nil))) pa_nil))), ?_⟩
  have big : (10000 : Nat) ≤ sizeLine := by decide
  have o3 := ok.few
  have bl := btxt_len ok
  refine ⟨_, rfl, ⟨_, rfl⟩, btxt as, ", ", rfl, rfl, by decide +kernel, by omega, fun l hl => ?_⟩
  rw [btxt_split ok e]
  have s2 := same_new hl (.lst ((as.map atxt).map V.str))
  refine ⟨l, rfl, ⟨_, .inl (.inl upd_same)⟩, fun D hD => lc_list (K := K) (a := l) (xs := (as.map atxt).map V.str) (fun i H2 => ∃ xs : List V, H2 D = some (.lst xs) ∧ AtsAt H2 xs (as.take i) ∧ Same (upd H l (.lst ((as.map atxt).map V.str))) H2)
    ⟨[], upd_same, trivial, same_new hD _⟩ (fun i H2 _ ⟨_, _, _, h⟩ => .inl (.inl (h _ _ upd_same))) ?_ ?_⟩
  · rintro i x H2 hi ⟨xs, h2, A2, s3⟩
    rw [List.map_map, List.getElem?_map] at hi
    obtain ⟨a, ha, rfl⟩ : ∃ a, as[i]? = some a ∧ x = .str (atxt a) := by
      cases hq : as[i]? with
      | none => rw [hq] at hi; cases hi
      | some p => rw [hq] at hi; exact ⟨p, rfl, by simpa using hi.symm⟩
    have am : a ∈ as := List.mem_of_getElem? ha
    have li : i < as.length := (List.getElem?_eq_some_iff.mp ha).1
    have xl := A2.len
    rw [List.length_take] at xl
    refine ⟨rfl, ?_⟩
    refine ⟨_, rfl, a, rfl, ok.ok a am, fun v H3 T s4 => ⟨xs, s4 _ _ h2, by omega, xs ++ [v], upd_same, ?_, ?_⟩⟩
    · have h3 := s4 _ _ h2
      have keep : ∀ b zs, H3 b = some (.tup zs) → (upd H3 D (.lst (xs ++ [v]))) b = some (.tup zs) := fun b zs z => by rw [upd_ne (ne_of z h3 (by intro z; cases z))]; exact z
      have tk : as.take (i + 1) = as.take i ++ [a] := by rw [List.take_add_one, ha]; rfl
      rw [tk]
      exact (A2.mono fun b zs z => keep b zs (s4 _ _ z)).append ⟨atAt_mono keep T, trivial⟩
    · intro c o z
      rw [upd_ne (ne_of_none z hD)]
      exact s4 _ _ (s3 _ _ z)
  · rintro H2 ⟨xs, h2, A2, s3⟩
    rw [List.length_map, List.length_map, List.take_of_length_le (Nat.le_refl _)] at A2
    refine ⟨D, xs, rfl, .inl ⟨.inl (.inl h2), fun b hb => ?_⟩⟩
    have s4 := same_new hb (.tup xs)
    exact q b xs _ upd_same (A2.same s4) (s2.trans (s3.trans s4))
theorem scRuleOr : FnScope ["text", "head", "parting", "atoms", "body", "rule"] ["text"] (defScope sRuleOr) := ⟨rfl, rfl, rfl, by decide +kernel, rfl, by decide +kernel, by decide +kernel⟩
theorem ok_ruleor {f fA fB fI : Addr} {fd dA dB dI : FuncData} (F : Fun K "rule_or_none" "rule_or_none" sRuleOr f fd)
    (GA : FnOk P w K mg base CX0 6 fA dA ["text"] spAtomOr) (kA : PySem.W.keepIn K (.ref fA) = true) (bA : Binds K dA ["text"] []) (mA : mg "atom_or_none" = some (.ref fA))
    (GB : FnOk P w K mg base CX0 7 fB dB ["text"] spAtomsOr) (kB : PySem.W.keepIn K (.ref fB) = true) (bB : Binds K dB ["text"] []) (mB : mg "atoms_or_nones" = some (.ref fB))
    (GI : FnOk P w K mg base CX0 6 fI dI ["thing"] spIsRule) (kI : PySem.W.keepIn K (.ref fI) = true) (bI : Binds K dI ["thing"] []) (mI : mg "is_rule" = some (.ref fI)) : FnOk P w K mg base CX0 8 f fd ["text"] spRuleOr := by
  refine F.ok scRuleOr (fun vs H Q E h => ?_) (fun cdv A outer s H vs Q E hr h => ?_)
  · obtain ⟨r, rfl, _⟩ := h
    rfl
  obtain ⟨r, rfl, ok, q⟩ := h
  have r6 : Room 6 _ := hr.mono (by decide)
  refine ⟨_, pss_cons (ps_asg (pe_partition (pv 0) pe_str) (pg_tup (by rfl) (pgs_cons (pg_name (i := 1) scRuleOr.nd rfl (Or.inl rfl)) (pgs_cons (pg_name (i := 2) scRuleOr.nd rfl (Or.inl rfl)) (pgs_cons (pg_name (i := 3) scRuleOr.nd rfl (Or.inl rfl)) pgs_nil)))))
    (pss_cons (ps_set (i := 4) scRuleOr.nd rfl (Or.inl rfl) (pe_ifExp (pt_truth (pv 2) (by intro _; rfl)) (pe_call GB hr rfl mB kB bB .nil pass0 (pa_cons (pv 3) pa_nil)) (pe_tup pa_nil)))
    (pss_cons (ps_set (i := 5) scRuleOr.nd rfl (Or.inl rfl) (pe_tup (pa_cons (pe_call GA r6 rfl mA kA bA .nil pass0 (pa_cons (pv 1) pa_nil)) (pa_cons (pv 4) pa_nil))))
    (pss_one (ps_ret (pe_ifExp (pt_val (pe_call GI r6 rfl mI kI bI .nil pass0 (pa_cons (pv 5) pa_nil))) (pv 5) pe_non))))), ?_⟩
  have big : (10000 : Nat) ≤ sizeLine := by decide
  have rl := rtxt_len ok
  have o3 := ok.bd.few
  -- the end, once the body is made
  have fin : ∀ (b : Addr) (xs : List V) (H2 : Hp) (x1 : V), x1 = .str (atxt r.hd) → H2 b = some (.tup xs) → AtsAt H2 xs r.bd → Same H H2 → ∀ v H3, AtAt H3 v r.hd → Same H2 H3 → ∀ g, H3 g = none → RuAt (upd H3 g (.tup [v, .ref b])) (.ref g) r ∧ Same H (upd H3 g (.tup [v, .ref b])) := by
    intro b xs H2 x1 _ hb A s2 v H3 T s3 g hg
    have s4 := same_new hg (.tup [v, .ref b])
    exact ⟨⟨g, b, v, xs, rfl, upd_same, atAt_same T s4, s4 _ _ (s3 _ _ hb), (A.same s3).same s4⟩, s2.trans (s3.trans s4)⟩
  by_cases e : r.bd = []
  · refine ⟨_, rfl, ⟨_, rfl⟩, rtxt r, " if ", rfl, rfl, by decide +kernel, by omega, fun g hg => ?_⟩
    rw [rtxt_part0 ok e]
    have s1 := same_new hg (.tup [V.str (atxt r.hd), .str Str.empty, .str Str.empty])
    refine ⟨g, _, rfl, .inl (.inl upd_same), rfl, _, _, rfl, _, _, rfl, _, _, rfl, rfl, ?_⟩
    refine ⟨_, rfl, false, ⟨(by show 0 ≤ sizeLine; decide), (by show false = (((Str.empty : Str).length : Int) != 0); decide +kernel)⟩, iteF ⟨(by show 0 ≤ sizeLine; decide), fun b hb => ?_⟩⟩
    have s2 := same_new hb (.tup ([] : List V))
    refine ⟨_, rfl, r.hd, rfl, ok.hd.toAtOk, fun v H3 T s3 => ⟨_, rfl, (by show 2 ≤ sizeLine; decide), fun c hc => ?_⟩⟩
    obtain ⟨R, s4⟩ := fin b [] _ _ rfl upd_same (by rw [e]; trivial) (s1.trans s2) v H3 T s3 c hc
    exact ⟨_, rfl, _, r, rfl, R, ok, fun H5 s5 => ⟨true, rfl, iteT ⟨_, rfl, q _ H5 (R.same s5) (s4.trans s5)⟩⟩⟩
  · refine ⟨_, rfl, ⟨_, rfl⟩, rtxt r, " if ", rfl, rfl, by decide +kernel, by omega, fun g hg => ?_⟩
    rw [rtxt_part1 ok e]
    have s1 := same_new hg (.tup [V.str (atxt r.hd), .str (" if " : Str), .str (btxt r.bd)])
    refine ⟨g, _, rfl, .inl (.inl upd_same), rfl, _, _, rfl, _, _, rfl, _, _, rfl, rfl, ?_⟩
    refine ⟨_, rfl, true, ⟨(by show (" if " : Str).length ≤ sizeLine; rw [show (" if " : Str).length = 4 by decide +kernel]; omega), (by show true = (((" if " : Str).length : Int) != 0); decide +kernel)⟩, iteT ?_⟩
    refine ⟨_, rfl, r.bd, rfl, ok.bd.ats, e, fun b xs H2 hb A2 s2 => ?_⟩
    refine ⟨_, rfl, r.hd, rfl, ok.hd.toAtOk, fun v H3 T s5 => ⟨_, rfl, (by show 2 ≤ sizeLine; decide), fun c hc => ?_⟩⟩
    obtain ⟨R, s6⟩ := fin b xs _ _ rfl hb A2 (s1.trans s2) v H3 T s5 c hc
    exact ⟨_, rfl, _, r, rfl, R, ok, fun H5 s7 => ⟨true, rfl, iteT ⟨_, rfl, q _ H5 (R.same s7) (s6.trans s7)⟩⟩⟩
theorem scRuleIn : FnScope ["text", "rule"] ["text"] (defScope sRuleIn) := ⟨rfl, rfl, rfl, by decide +kernel, rfl, by decide +kernel, by decide +kernel⟩
theorem ok_rulein {f fO : Addr} {fd dO : FuncData} (F : Fun K "rule_in" "rule_in" sRuleIn f fd)
    (GO : FnOk P w K mg base CX0 8 fO dO ["text"] spRuleOr) (kO : PySem.W.keepIn K (.ref fO) = true) (bO : Binds K dO ["text"] []) (mO : mg "rule_or_none" = some (.ref fO)) : FnOk P w K mg base CX0 9 f fd ["text"] spRuleOr := by
  refine F.ok scRuleIn (fun vs H Q E h => ?_) (fun cdv A outer s H vs Q E hr h => ?_)
  · obtain ⟨a, rfl, _⟩ := h
    rfl
  obtain ⟨a, rfl, ok, q⟩ := h
  refine ⟨_, pss_cons (ps_set (i := 1) scRuleIn.nd rfl (Or.inl rfl) (pe_call GO hr rfl mO kO bO .nil pass0 (pa_cons (pv 0) pa_nil)))
    (pss_cons (ps_if (pt_cmpR op_isN (pv 1) pe_non (nomark _)) pss_never pss_nil) (pss_one (ps_ret (pv 1)))), ?_⟩
  refine ⟨_, rfl, a, rfl, ok, fun v H1 T s1 => ?_⟩
  have vn : v ≠ .non := by obtain ⟨g, _, _, _, rfl, _⟩ := T; intro z; cases z
  exact ⟨_, rfl, rfl, false, congrArg V.bl (decide_eq_false vn), iteF ⟨_, rfl, q v H1 T s1⟩⟩
end
end Rp

set_option maxHeartbeats 8000000
/-! The law's own texts. -/
namespace Rp
open PySem PySem.Spec PyProof.Rows L2 TL
def spLText (n : Nat) : Sp := fun vs H Q _ => ∃ (v : V) (t : Tm), vs = [v] ∧ TmAt H v t ∧ t.small ∧ t.size ≤ 1000 ∧ t.deep < n ∧ ∀ H', Same H H' → Q (.str t.txt) H'
theorem kid_nums {t k : Tm} (h : k ∈ t.kids) : ∀ n ∈ k.nums, n ∈ t.nums := by
  cases t with
  | v n => simp [Tm.kids] at h
  | z => simp [Tm.kids] at h
  | s t => simp [Tm.kids] at h; subst h; exact fun n hn => hn
  | f l r =>
    simp [Tm.kids] at h
    rcases h with rfl | rfl
    · exact fun n hn => List.mem_append.mpr (.inl hn)
    · exact fun n hn => List.mem_append.mpr (.inr hn)
def atD (a : At) : PyData := .tuple (.str a.nm :: a.ts.map tmD)
def bdD (as : List At) : PyData := .tuple (as.map atD)
theorem all_dp {K : PySem.W.Frag} {H : Hp} : ∀ {xs : List V} {ts : List Tm}, AllAt H xs ts → DpAll K H xs (ts.map tmD)
  | [], [], _ => .nil
  | _ :: _, _ :: _, h => .cons (h.1.dat (b := (0 : Nat))).dp (all_dp h.2)
theorem at_dp {K : PySem.W.Frag} {H : Hp} {v : V} {a : At} (h : AtAt H v a) : Dp K H v (atD a) := by
  obtain ⟨p, xs, rfl, h1, h2⟩ := h
  exact .tup (.inl (.inl h1)) (.cons (.str _) (all_dp h2))
theorem ats_dp {K : PySem.W.Frag} {H : Hp} : ∀ {xs : List V} {as : List At}, AtsAt H xs as → DpAll K H xs (as.map atD)
  | [], [], _ => .nil
  | _ :: _, _ :: _, h => .cons (at_dp h.1) (ats_dp h.2)
theorem name_lay {x : Str} (h : NameOk x) : PyData.canLay0 (.str x) = true := by
  show x.cps.all (· < 0x110000) = true
  rw [Array.all_eq_true']
  intro c hc
  have := h.low c (Array.mem_toList_iff.mpr hc)
  exact decide_eq_true (by omega)
theorem tms_lay : ∀ {ts : List Tm}, (∀ t ∈ ts, t.size ≤ 50) → PyData.canLayAll0 (ts.map tmD) = true ∧ PyData.depthAll (ts.map tmD) ≤ 51
  | [], _ => ⟨rfl, by decide⟩
  | t :: ts, h => by
    have ih := tms_lay (ts := ts) fun u hu => h u (by simp [hu])
    have d1 := Tm.deep_lt t
    have z := h t (by simp)
    obtain ⟨c1, c2, _⟩ : (tmD t).canLay0 = true ∧ (tmD t).depth ≤ t.deep + 1 ∧ nd (tmD t) ≤ 2 * t.size := tm_ok t
    simp only [List.map_cons, PyData.canLayAll0, PyData.depthAll, c1, ih.1]
    exact ⟨rfl, by omega⟩
theorem at_lay {a : At} (ok : AtOk 50 a) : (atD a).canLay0 = true ∧ (atD a).depth ≤ 52 := by
  have h := tms_lay (ts := a.ts) fun t ht => (ok.sm t ht).2
  refine ⟨?_, ?_⟩
  · show PyData.canLayAll0 (.str a.nm :: a.ts.map tmD) = true
    simp only [PyData.canLayAll0, name_lay ok.nm, h.1]
    rfl
  · show PyData.depthAll (.str a.nm :: a.ts.map tmD) + 1 ≤ 52
    simp only [PyData.depthAll, PyData.depth]
    omega
theorem ats_lay : ∀ {as : List At}, (∀ a ∈ as, AtOk 50 a) → PyData.canLayAll0 (as.map atD) = true ∧ PyData.depthAll (as.map atD) ≤ 52
  | [], _ => ⟨rfl, by decide⟩
  | a :: as, h => by
    have ih := ats_lay (as := as) fun b hb => h b (by simp [hb])
    have z := at_lay (h a (by simp))
    simp only [List.map_cons, PyData.canLayAll0, PyData.depthAll, z.1, ih.1]
    exact ⟨rfl, by omega⟩
theorem bd_shaped {as : List At} (h : ∀ a ∈ as, AtOk 50 a) : SeqAt.shaped (bdD as) = true := by
  have z := ats_lay h
  refine shaped_of ?_ ?_
  · show PyData.canLayAll0 _ = true
    exact z.1
  · show PyData.depthAll _ + 1 ≤ 64
    omega
theorem eqv_tnil {ds : List PyData} : PyData.eqv (.tuple ds) (.tuple []) = ds.isEmpty := by
  cases ds <;> simp [PyData.eqv, PyData.eqvAll]
section
variable {P : Program} {w : World} {K : PySem.W.Frag} {mg : Str → Option Value} {base : Heap}
theorem scLText : FnScope ["_law_term_here", "_law_part"] ["_law_term_here"] (defScope sText) := ⟨rfl, rfl, rfl, by decide +kernel, rfl, by decide +kernel, by decide +kernel⟩
theorem ok_ltext {n : Nat} {f : Addr} {fd : FuncData} (F : Fun K "_law_term_text" "_law_term_text" sText f fd) (b1 : Binds K fd ["_law_term_here"] []) (mF : mg "_law_term_text" = some (.ref f)) (G : FnOk P w K mg base CX0 n f fd ["_law_term_here"] (spLText n)) (M : SameG mg) :
    FnOk P w K mg base CX0 (n + 1) f fd ["_law_term_here"] (spLText (n + 1)) := by
  refine F.ok scLText (fun vs H Q E h => ?_) (fun cdv A outer s H vs Q E hr h => ?_)
  · obtain ⟨v, t, rfl, _⟩ := h
    rfl
  obtain ⟨v, t, rfl, T, sm, sz, dp, q⟩ := h
  refine ⟨_, pss_cons (ps_if (pt_val (pe_callB (id := "isinstance") call_isi (by rfl) M.isi (by decide +kernel) (pa_cons (pv 0) (pa_cons (pe_bltn (v := .ty "int") (by rfl) M.int (by decide +kernel) rfl) pa_nil))))
      (pss_one (ps_ret (pe_op op_add_str pe_str (pe_callTy call_str_int (by rfl) M.str (by decide +kernel) (pa_cons (pv 0) pa_nil))))) pss_nil)
    (pss_cons (ps_if (pt_cmpR op_eq (pe_callB call_len_seq (by rfl) M.len PySem.boot_len (pa_cons (pv 0) pa_nil)) pe_int (nomark _)) (pss_one (ps_ret pe_str)) pss_nil)
    (pss_one (ps_ret (pe_op op_add_str (pe_op op_add_str (pe_op op_add_str (pe_ix ix_tup (pv 0) pe_int (fun _ _ => rfl)) pe_str) (pe_bm PySem.F.plainAttrs_str PySem.F.slot_str_join PySem.F.type_str_join mt_join pe_str (pa_cons
      (pe_lc (own := [("_law_part", 1)]) (g := gName 1) (tt := tYes) (te := tCall (spLText n) [] E0 (tCons (tVar 1) tNil)) rfl scLText.nd (pi_tup (pe_slice sl_tup (pv 0) (po_some pe_int) po_none))
        (blkOk_by (N := ["_law_term_here", "_law_part"]) (sc := defScope sText) (by decide +kernel)) (fun _ _ _ _ _ => pg_name (i := 1) scLText.nd rfl (Or.inl rfl))
        (fun _ _ _ _ _ => pts_nil) (fun _ _ _ _ _ => pe_call G hr (by rfl) mF F.kp b1 .nil pass0 (pa_cons (pv 1) pa_nil))) pa_nil))) pe_str)))), ?_⟩
  have big : (10000 : Nat) ≤ sizeLine := by decide
  have tl0 := txt_len t sm
  rcases T.ty (K := K) with ⟨m, rfl, rfl⟩ | ⟨a, xs, rfl, ha, ty, no⟩
  · have hm := sm m (by simp [Tm.nums])
    refine ⟨_, rfl, _, _, _, _, true, rfl, .ty "int", .base (.int m), kit_ii, true, rfl, iteT ?_⟩
    refine ⟨_, rfl, m, rfl, ?_, "x", _, rfl, rfl, ?_, q H (Same.refl H)⟩
    · have := Nat.log2_le_self m.natAbs; omega
    · have := num_len hm
      have : ("x" : Str).length = 1 := by decide +kernel
      show 1 + (Str.ofString (toString m)).length ≤ _
      omega
  · obtain ⟨a', ks, e, ha', hk, hks⟩ := T.tupled no
    cases e
    refine ⟨_, rfl, _, _, _, _, false, rfl, .ty "int", ty, kit_ti, false, rfl, iteF ?_⟩
    have l3 : ("(" : Str).length = 1 := by decide +kernel
    have l4 : (")" : Str).length = 1 := by decide +kernel
    have l5 : ("," : Str).length = 1 := by decide +kernel
    have kid_ok : ∀ (x : V) (i : Nat), ks[i]? = some x → ∃ k, t.kids[i]? = some k ∧ TmAt H x k ∧ k.small ∧ k.size ≤ 1000 ∧ k.deep < n := by
      intro x i hx
      have hil : i < t.kids.length := by rw [← hk]; exact (List.getElem?_eq_some_iff.mp hx).1
      have hki : t.kids[i]? = some t.kids[i] := List.getElem?_eq_getElem hil
      have mem : t.kids[i] ∈ t.kids := List.getElem_mem hil
      have d1 := kid_deep mem
      have z1 := kid_size mem
      refine ⟨_, hki, hks i x _ hx hki, ?_, by omega, by omega⟩
      exact fun k hk' => sm k (kid_nums mem k hk')
    by_cases hz : ks = []
    · subst hz
      have tz : t = .z := by
        cases t with
        | v n => exact absurd rfl (no n)
        | z => rfl
        | s t => simp [Tm.kids] at hk
        | f l r => simp [Tm.kids] at hk
      subst tz
      exact ⟨_, rfl, a, _, rfl, .inr (.inl (.inl ha')), rfl, true, congrArg V.bl (decide_eq_true rfl), iteT (q H (Same.refl H))⟩
    · have kpos : 0 < ks.length := List.length_pos_iff.mpr hz
      refine ⟨_, rfl, a, _, rfl, .inr (.inl (.inl ha')), rfl, false, congrArg V.bl (decide_eq_false (fun z => by injection z with z; rw [List.length_cons] at z; omega)), iteF ?_⟩
      have hl1 : (signHead t).length = 1 := by
        cases t with
        | v n => exact absurd rfl (no n)
        | z => show ("0" : Str).length = 1; decide +kernel
        | s t => show ("s" : Str).length = 1; decide +kernel
        | f l r => show ("f" : Str).length = 1; decide +kernel
      refine ⟨_, rfl, a, _, _, _, rfl, rfl, .inl (.inl ha'), at_of (j := 0) rfl rfl, signHead t, "(", rfl, rfl, by omega, ?_⟩
      refine ⟨rfl, _, rfl, 1, rfl, a, _, rfl, .inl (.inl ha'), cut_part _ _, fun p hp => ?_⟩
      rw [cut_tail]
      have s1 := same_new hp (.tup ks)
      refine ⟨p, rfl, ⟨_, .inl (.inl upd_same)⟩, fun D hD => lc_tup (K := K) (a := p) (xs := ks) (fun i H2 => H2 D = some (.lst (((t.kids.take i).map Tm.txt).map V.str)) ∧ Same (upd H p (.tup ks)) H2) ⟨upd_same, same_new hD _⟩ (fun i H2 _ h => .inl (.inl (h.2 _ _ upd_same))) ?_ ?_⟩
      · rintro i x H2 hi ⟨h2, s2⟩
        obtain ⟨k, hki, Tk, smk, szk, dk⟩ := kid_ok x i hi
        refine ⟨rfl, ?_⟩
        refine ⟨_, rfl, x, k, rfl, (Tk.same s1).same s2, smk, szk, dk, fun H3 s3 => ⟨_, s3 _ _ h2, ?_, ?_, ?_⟩⟩
        · rw [List.length_map, List.length_map, List.length_take]
          have : t.kids.length ≤ 2 := by cases t <;> simp [Tm.kids]
          omega
        · have tk : t.kids.take (i + 1) = t.kids.take i ++ [k] := by rw [List.take_add_one, hki]; rfl
          rw [upd_same, tk, List.map_append, List.map_append]; rfl
        · intro c o z
          rw [upd_ne (ne_of_none z hD)]
          exact s3 _ _ (s2 _ _ z)
      · rintro H2 ⟨h2, s2⟩
        rw [hk, List.take_of_length_le (Nat.le_refl _)] at h2
        have tt := Tm.txt_kids t
        have pt : t.txt = signHead t ++ "(" ++ Txt.join "," (t.kids.map Tm.txt) ++ ")" := by
          rw [tt]
          cases t with
          | v n => exact absurd rfl (no n)
          | z => simp [Tm.kids] at hk; exact absurd hk hz
          | s t => rfl
          | f l r => rfl
        have lt := congrArg Str.length pt
        rw [slen, slen, slen] at lt
        refine ⟨",", D, t.kids.map Tm.txt, rfl, rfl, .inl (.inl (.inl h2)), ?_, ?_⟩
        · have each : ∀ k ∈ t.kids, k.txt.length ≤ 4000 := fun k hk' => by
            obtain ⟨i, hi, rfl⟩ := List.getElem_of_mem hk'
            obtain ⟨k', h1, _, h3, h4, _⟩ := kid_ok (ks[i]'(by omega)) i (List.getElem?_eq_getElem (by omega))
            rw [List.getElem?_eq_getElem hi] at h1
            cases h1
            have := txt_len _ h3
            omega
          rw [l5]
          match hkk : t.kids, each with
          | [], _ => simp
          | [k], each => simp; have := each k (by simp); omega
          | [k, k'], each => simp; have := each k (by simp); have := each k' (by simp); omega
          | k :: k' :: k'' :: r, _ => cases t <;> simp [Tm.kids] at hkk
        · refine ⟨signHead t ++ "(", _, rfl, rfl, by rw [slen]; omega, ?_⟩
          refine ⟨signHead t ++ "(" ++ Txt.join "," (t.kids.map Tm.txt), ")", rfl, rfl, by rw [slen, slen]; omega, ?_⟩
          rw [← pt]
          exact q H2 (s1.trans s2)
theorem ltext_ok {f : Addr} {fd : FuncData} (F : Fun K "_law_term_text" "_law_term_text" sText f fd) (b1 : Binds K fd ["_law_term_here"] []) (mF : mg "_law_term_text" = some (.ref f)) (M : SameG mg) : ∀ n : Nat, FnOk P w K mg base CX0 n f fd ["_law_term_here"] (spLText n)
  | 0 => none_left fun vs H Q E h => by
    obtain ⟨v, t, _, _, _, _, h, _⟩ := h
    omega
  | n + 1 => ok_ltext F b1 mF (ltext_ok F b1 mF M n) M
theorem ltext5 {f : Addr} {fd : FuncData} (F : Fun K "_law_term_text" "_law_term_text" sText f fd) (b1 : Binds K fd ["_law_term_here"] []) (mF : mg "_law_term_text" = some (.ref f)) (M : SameG mg) : FnOk P w K mg base CX0 60 f fd ["_law_term_here"] (spLText 60) := ltext_ok F b1 mF M 60
def spLAtom : Sp := spAtomText
theorem scLAtom : FnScope ["_law_atom", "_law_term_here"] ["_law_atom"] (defScope sLawAT) := ⟨rfl, rfl, rfl, by decide +kernel, rfl, by decide +kernel, by decide +kernel⟩
theorem ok_latom {f fT : Addr} {fd dT : FuncData} (F : Fun K "_law_atom_text" "_law_atom_text" sLawAT f fd)
    (GT : FnOk P w K mg base CX0 60 fT dT ["_law_term_here"] (spLText 60)) (kT : PySem.W.keepIn K (.ref fT) = true) (bT : Binds K dT ["_law_term_here"] []) (mT : mg "_law_term_text" = some (.ref fT)) : FnOk P w K mg base CX0 61 f fd ["_law_atom"] spAtomText := by
  refine F.ok scLAtom (fun vs H Q E h => ?_) (fun cdv A outer s H vs Q E hr h => ?_)
  · obtain ⟨v, a, rfl, _⟩ := h
    rfl
  obtain ⟨v, a, rfl, ⟨p, xs, rfl, hp, A1⟩, ok, q⟩ := h
  refine ⟨_, pss_one (ps_ret (pe_bm PySem.F.plainAttrs_str PySem.F.slot_str_join PySem.F.type_str_join mt_join pe_str (pa_cons (pe_op op_cat (pe_lst (pa_cons (pe_ix ix_tup (pv 0) pe_int (fun _ _ => rfl)) pa_nil))
      (pe_lc (own := [("_law_term_here", 1)]) (g := gName 1) (tt := tYes) (te := tCall (spLText 60) [] E0 (tCons (tVar 1) tNil)) rfl scLAtom.nd (pi_tup (pe_slice sl_tup (pv 0) (po_some pe_int) po_none)) (blkOk_by (N := ["_law_atom", "_law_term_here"]) (sc := defScope sLawAT) (by decide +kernel)) (fun _ _ _ _ _ => pg_name (i := 1) scLAtom.nd rfl (Or.inl rfl))
        (fun _ _ _ _ _ => pts_nil) (fun _ _ _ _ _ => pe_call GT hr (by rfl) mT kT bT .nil pass0 (pa_cons (pv 1) pa_nil)))) pa_nil))), ?_⟩
  have big : (10000 : Nat) ≤ sizeLine := by decide
  have xl := A1.len
  have o2 := ok.two
  refine ⟨rfl, _, rfl, p, _, _, _, rfl, rfl, .inl (.inl hp), at_of (j := 0) rfl rfl, (by show 1 ≤ sizeLine; decide), fun c hc => ?_⟩
  have s1 := same_new hc (.lst [V.str a.nm])
  refine ⟨_, rfl, 1, rfl, p, _, rfl, .inl (.inl (s1 _ _ hp)), cut_part _ _, fun g hg => ?_⟩
  rw [cut_tail]
  have s2 := same_new hg (.tup xs)
  have hg0 : (upd (upd H c (.lst [V.str a.nm])) g (.tup xs)) g = some (.tup xs) := upd_same
  refine ⟨g, rfl, ⟨_, .inl (.inl hg0)⟩, fun D hD => lc_tup (K := K) (a := g) (xs := xs) (fun i H2 => H2 D = some (.lst (((a.ts.take i).map Tm.txt).map V.str)) ∧ Same (upd (upd H c (.lst [V.str a.nm])) g (.tup xs)) H2) ⟨upd_same, same_new hD _⟩ (fun i H2 _ h => .inl (.inl (h.2 _ _ hg0))) ?_ ?_⟩
  · rintro i x H2 hi ⟨h2, s3⟩
    obtain ⟨t, ht, T⟩ := A1.get hi
    obtain ⟨sm, sz⟩ := ok.sm t (List.mem_of_getElem? ht)
    have dl := Tm.deep_lt t
    refine ⟨rfl, ?_⟩
    refine ⟨_, rfl, x, t, rfl, ((T.same s1).same s2).same s3, sm, by omega, by omega, fun H3 s4 => ⟨_, s4 _ _ h2, ?_, ?_, ?_⟩⟩
    · rw [List.length_map, List.length_map, List.length_take]; omega
    · have tk : a.ts.take (i + 1) = a.ts.take i ++ [t] := by rw [List.take_add_one, ht]; rfl
      rw [upd_same, tk, List.map_append, List.map_append]; rfl
    · intro c o z
      rw [upd_ne (ne_of_none z hD)]
      exact s4 _ _ (s3 _ _ z)
  · rintro H2 ⟨h2, s3⟩
    rw [xl, List.take_of_length_le (Nat.le_refl _)] at h2
    have ps := parts_sum ok
    have l1 : (" " : Str).length = 1 := by decide +kernel
    refine ⟨c, D, _, _, rfl, rfl, s3 _ _ (s2 _ _ upd_same), h2, by simp; omega, fun l hl => ?_⟩
    have e : [V.str a.nm] ++ (a.ts.map Tm.txt).map V.str = (parts a).map V.str := by simp [parts]
    rw [e]
    have s4 := same_new hl (.lst ((parts a).map V.str))
    exact ⟨" ", l, parts a, rfl, rfl, .inl (.inl (.inl upd_same)), by rw [l1]; omega, q _ (s1.trans (s2.trans (Same.trans (H1 := H2) s3 s4)))⟩
theorem scLRule : FnScope ["_law_rule_here", "_law_head_here", "_law_body", "_law_atom"] ["_law_rule_here"] (defScope sLawRT) := ⟨rfl, rfl, rfl, by decide +kernel, rfl, by decide +kernel, by decide +kernel⟩
theorem ok_lrule {f fA : Addr} {fd dA : FuncData} (F : Fun K "_law_rule_text" "_law_rule_text" sLawRT f fd)
    (GA : FnOk P w K mg base CX0 61 fA dA ["_law_atom"] spAtomText) (kA : PySem.W.keepIn K (.ref fA) = true) (bA : Binds K dA ["_law_atom"] []) (mA : mg "_law_atom_text" = some (.ref fA)) : FnOk P w K mg base CX0 62 f fd ["_law_rule_here"] spRuleText := by
  refine F.ok scLRule (fun vs H Q E h => ?_) (fun cdv A outer s H vs Q E hr h => ?_)
  · obtain ⟨v, r, rfl, _⟩ := h
    rfl
  obtain ⟨v, r, rfl, ⟨p, q, vh, xs, rfl, hp, A1, hq, A2⟩, ok, fin⟩ := h
  refine ⟨_, pss_cons (ps_asg (pv 0) (pg_tup (by rfl) (pgs_cons (pg_name (i := 1) scLRule.nd rfl (Or.inl rfl)) (pgs_cons (pg_name (i := 2) scLRule.nd rfl (Or.inl rfl)) pgs_nil))))
    (pss_one (ps_ret (pe_op op_add_str (pe_call GA hr rfl mA kA bA .nil pass0 (pa_cons (pv 1) pa_nil))
      (pe_ifExp (pt_cmpR (op_neD hr.units) (pv 2) (pe_tup pa_nil) (nomark _))
        (pe_op op_add_str pe_str (pe_bm PySem.F.plainAttrs_str PySem.F.slot_str_join PySem.F.type_str_join mt_join pe_str (pa_cons
          (pe_lc (own := [("_law_atom", 3)]) (g := gName 3) (tt := tYes) (te := tCall spAtomText [] E0 (tCons (tVar 3) tNil)) rfl scLRule.nd (pi_tup (pv 2)) (blkOk_by (N := ["_law_rule_here", "_law_head_here", "_law_body", "_law_atom"]) (sc := defScope sLawRT) (by decide +kernel)) (fun _ _ _ _ _ => pg_name (i := 3) scLRule.nd rfl (Or.inl rfl))
            (fun _ _ _ _ _ => pts_nil) (fun _ _ _ _ _ => pe_call GA hr (by rfl) mA kA bA .nil pass0 (pa_cons (pv 3) pa_nil))) pa_nil)))
        pe_str)))), ?_⟩
  have big : (10000 : Nat) ≤ sizeLine := by decide
  have xl := A2.len
  have hl := atxt_len ok.hd.toAtOk
  have bl : (Txt.join ", " (r.bd.map atxt)).length ≤ 3012 := btxt_len ok.bd.ats
  have li4 : (" if " : Str).length = 4 := by decide +kernel
  refine ⟨_, rfl, p, _, rfl, .inl (.inl hp), rfl, _, _, rfl, _, _, rfl, rfl, ?_⟩
  refine ⟨_, rfl, vh, r.hd, rfl, A1, ok.hd.toAtOk, fun H1 s1 => ?_⟩
  refine ⟨_, rfl, (by show 0 ≤ sizeLine; decide), fun b hb => ?_⟩
  have s2 := same_new hb (.tup ([] : List V))
  have sh0 : SeqAt.shaped (.tuple []) = true := by decide
  refine ⟨bdD r.bd, .tuple [], .tup (.inl (.inl (s2 _ _ (s1 _ _ hq)))) (ats_dp ((A2.same s1).same s2)), .tup (.inl (.inl upd_same)) .nil, bd_shaped ok.bd.ok, sh0, !(r.bd.map atD).isEmpty, congrArg (fun z => V.bl (!z)) eqv_tnil, ?_⟩
  have hq2 := s2 _ _ (s1 _ _ hq)
  have A3 := (A2.same s1).same s2
  cases hbd : r.bd with
  | nil =>
    rw [List.map_nil]
    refine iteF ⟨_, _, rfl, rfl, ?_, ?_⟩
    · have : ("" : Str).length = 0 := by decide +kernel
      omega
    · have e : rtxt r = atxt r.hd := if_pos hbd
      rw [show atxt r.hd ++ ("" : Str) = rtxt r by rw [e]; exact ext_tl (by rw [tl_append]; show _ ++ [] = _; rw [List.append_nil])]
      exact fin _ (s1.trans s2)
  | cons a0 as0 =>
    have ne : r.bd ≠ [] := by rw [hbd]; exact List.cons_ne_nil _ _
    rw [List.map_cons]
    refine iteT ?_
    refine ⟨rfl, _, rfl, q, rfl, ⟨_, .inl (.inl hq2)⟩, fun D hD => lc_tup (K := K) (a := q) (xs := xs) (fun i H2 => H2 D = some (.lst (((r.bd.take i).map atxt).map V.str)) ∧ Same (upd H1 b (.tup [])) H2) ⟨upd_same, same_new hD _⟩ (fun i H2 _ h => .inl (.inl (h.2 _ _ hq2))) ?_ ?_⟩
    · rintro i x H2 hi ⟨h2, s3⟩
      obtain ⟨a, ha, T⟩ := A3.get hi
      have li : i < r.bd.length := (List.getElem?_eq_some_iff.mp ha).1
      have o3 := ok.bd.few
      refine ⟨rfl, ?_⟩
      refine ⟨_, rfl, x, a, rfl, atAt_same T s3, ok.bd.ok a (List.mem_of_getElem? ha), fun H3 s4 => ⟨_, s4 _ _ h2, ?_, ?_, ?_⟩⟩
      · rw [List.length_map, List.length_map, List.length_take]; omega
      · have tk : r.bd.take (i + 1) = r.bd.take i ++ [a] := by rw [List.take_add_one, ha]; rfl
        rw [upd_same, tk, List.map_append, List.map_append]; rfl
      · intro c o z
        rw [upd_ne (ne_of_none z hD)]
        exact s4 _ _ (s3 _ _ z)
    · rintro H2 ⟨h2, s3⟩
      rw [show r.bd.take xs.length = r.bd from by rw [xl]; exact List.take_length] at h2
      have bs := btxt_sum ok.bd.ats
      have o3 := ok.bd.few
      have l2 : (", " : Str).length = 2 := by decide +kernel
      have e : rtxt r = atxt r.hd ++ " if " ++ Txt.join ", " (r.bd.map atxt) := if_neg ne
      refine ⟨", ", D, r.bd.map atxt, rfl, rfl, .inl (.inl (.inl h2)), by rw [l2, List.length_map]; omega, ?_⟩
      refine ⟨" if ", _, rfl, rfl, by omega, ?_⟩
      refine ⟨_, _, rfl, rfl, by rw [slen]; omega, ?_⟩
      rw [show atxt r.hd ++ ((" if " : Str) ++ Txt.join ", " (r.bd.map atxt)) = rtxt r by rw [e]; exact ext_tl (by simp only [tl_append, List.append_assoc])]
      exact fin _ (s1.trans (s2.trans s3))
end
end Rp

set_option maxHeartbeats 8000000
/-! The law's terms. -/
namespace Rp
open PySem PySem.Spec PyProof.Rows L2 TL
def spLVar : Sp := fun vs H Q _ => ∃ (b : Addr) (j : Nat), vs = [.ref b] ∧ BoxAt H b j ∧ j + 3 ≤ 1000000 ∧ ∀ (n : Int) (H' : Hp), 0 ≤ n → n ≤ 99 → BoxAt H' b (j + 3) → But b H H' → Q (.int n) H'
def spLTerm (n : Nat) : Sp := fun vs H Q _ => ∃ (b : Addr) (j d : Nat), vs = [.ref b, .int d] ∧ BoxAt H b j ∧ d < n ∧ d ≤ 4 ∧ j + (6 * 2 ^ d - 1) ≤ 1000000 ∧
  ∀ (v : V) (t : Tm) (H' : Hp), TmAt H' v t → t.small → t.size + 1 ≤ 2 ^ (d + 1) → BoxAt H' b (j + (6 * 2 ^ d - 1)) → But b H H' → Q v H'
section
variable {P : Program} {w : World} {K : PySem.W.Frag} {mg : Str → Option Value} {base : Heap}
theorem scLVar : FnScope ["_law_box_here"] ["_law_box_here"] (defScope sVariableL) := ⟨rfl, rfl, rfl, by decide +kernel, rfl, by decide +kernel, by decide +kernel⟩
theorem ok_lvar {f fT : Addr} {fd fdT : FuncData} (F : Fun K "_law_variable" "_law_variable" sVariableL f fd) (FT : Fun K "_law_take" "_law_take" sTake fT fdT) (bT : Binds K fdT ["_law_box_here", "_law_top"] []) (mT : mg "_law_take" = some (.ref fT)) :
    FnOk P w K mg base CX0 2 f fd ["_law_box_here"] spLVar := by
  have GT : FnOk P w K mg base CX0 1 fT fdT ["_law_box_here", "_law_top"] spTake := ok_take FT
  refine F.ok scLVar (fun vs H Q E h => ?_) (fun cdv A outer s H vs Q E hr h => ?_)
  · obtain ⟨b, j, rfl, _⟩ := h
    rfl
  obtain ⟨b, j, rfl, B, hj, q⟩ := h
  refine ⟨_, pss_one (ps_ret (pe_ix ix_list (pe_lst (pa_cons (pe_call GT hr rfl mT FT.kp bT .nil pass0 (pa_cons (pv 0) (pa_cons pe_int pa_nil))) (pa_cons (pe_call GT hr rfl mT FT.kp bT .nil pass0 (pa_cons (pv 0) (pa_cons pe_int pa_nil))) pa_nil)))
    (pe_call GT hr rfl mT FT.kp bT .nil pass0 (pa_cons (pv 0) (pa_cons pe_int pa_nil))) (fun _ _ => rfl))), ?_⟩
  refine ⟨_, rfl, b, _, j, rfl, B, by omega, by decide, by decide, fun r1 H1 a0 a1 B1 o1 => ?_⟩
  refine ⟨_, rfl, b, _, _, rfl, B1, by omega, by decide, by decide, fun r2 H2 b0 b1 B2 o2 => ?_⟩
  refine ⟨(by show 2 ≤ sizeLine; decide), fun d hd => ?_⟩
  have s3 := same_new hd (.lst [V.int r1, V.int r2])
  refine ⟨_, rfl, b, _, _, rfl, B2.same s3, by omega, by decide, by decide, fun r3 H4 c0 c1 B4 o4 => ?_⟩
  obtain ⟨ys, hb⟩ := B2.some
  have db : d ≠ b := fun e => by subst e; rw [hb] at hd; cases hd
  have hd4 := o4 _ _ upd_same db
  obtain ⟨num, hat, hnum⟩ : ∃ num : Int, atI [V.int r1, V.int r2] r3 = some (.int num) ∧ 0 ≤ num ∧ num ≤ 99 := by
    rcases (by omega : r3 = 0 ∨ r3 = 1) with e | e <;> subst e
    · exact ⟨_, at_of (j := 0) rfl rfl, by omega, by omega⟩
    · exact ⟨_, at_of (j := 1) rfl rfl, by omega, by omega⟩
  exact ⟨d, _, _, _, rfl, rfl, .inl (.inl hd4), hat, q num H4 hnum.1 hnum.2 B4 (o1.trans (o2.trans ((but_of s3).trans o4)))⟩
theorem scLTerm : FnScope ["_law_box_here", "_law_deep", "_law_way"] ["_law_box_here", "_law_deep"] (defScope sTermL) := ⟨rfl, rfl, rfl, by decide +kernel, rfl, by decide +kernel, by decide +kernel⟩
theorem TmAt.box {H H' : Hp} {b : Addr} {v : V} {t : Tm} {j : Nat} (T : TmAt H v t) (o : But b H H') (B : BoxAt H b j) : TmAt H' v t := by
  obtain ⟨ys, hb⟩ := B.some
  exact T.mono fun a xs z => o _ _ z (ne_of z hb (by intro e; cases e))
theorem ok_lterm {n : Nat} {f fT fV : Addr} {fd fdT dV : FuncData} (F : Fun K "_law_term" "_law_term" sTermL f fd) (b2 : Binds K fd ["_law_box_here", "_law_deep"] []) (mF : mg "_law_term" = some (.ref f))
    (G : FnOk P w K mg base CX0 (n + 2) f fd ["_law_box_here", "_law_deep"] (spLTerm n))
    (FT : Fun K "_law_take" "_law_take" sTake fT fdT) (bT : Binds K fdT ["_law_box_here", "_law_top"] []) (mT : mg "_law_take" = some (.ref fT))
    (GV : FnOk P w K mg base CX0 2 fV dV ["_law_box_here"] spLVar) (kV : PySem.W.keepIn K (.ref fV) = true) (bV : Binds K dV ["_law_box_here"] []) (mV : mg "_law_variable" = some (.ref fV)) :
    FnOk P w K mg base CX0 (n + 3) f fd ["_law_box_here", "_law_deep"] (spLTerm (n + 1)) := by
  have GT : FnOk P w K mg base CX0 1 fT fdT ["_law_box_here", "_law_top"] spTake := ok_take FT
  refine F.ok scLTerm (fun vs H Q E h => ?_) (fun cdv A outer s H vs Q E hr h => ?_)
  · obtain ⟨b, j, d, rfl, _⟩ := h
    rfl
  obtain ⟨b, j, d, rfl, B, dn, d4, hj, q⟩ := h
  have r1 : Room 1 _ := hr.mono (by omega)
  have r2 : Room 2 _ := hr.mono (by omega)
  refine ⟨_, pss_cons (ps_set (i := 2) scLTerm.nd rfl (Or.inl rfl) (pe_call GT r1 rfl mT FT.kp bT .nil pass0 (pa_cons (pv 0) (pa_cons pe_int pa_nil))))
    (pss_cons (ps_if (PW.pt (pw_or (pt_cmpR op_lt (pv 1) pe_int (nomark _)) (pw_or1 (pt_cmpR op_eq (pv 2) pe_int (nomark _))))) (pss_one (ps_ret (pe_ifExp (pt_cmpR op_gt (pe_call GT r1 rfl mT FT.kp bT .nil pass0 (pa_cons (pv 0) (pa_cons pe_int pa_nil))) pe_int (nomark _))
        (pe_call GV r2 rfl mV kV bV .nil pass0 (pa_cons (pv 0) pa_nil)) (pe_tup (pa_cons pe_str pa_nil))))) pss_nil)
    (pss_cons (ps_if (pt_cmpR op_lt (pv 2) pe_int (nomark _)) (pss_one (ps_ret (pe_tup (pa_cons pe_str (pa_cons (pe_call G hr rfl mF F.kp b2 .nil pass0 (pa_cons (pv 0) (pa_cons (pe_op op_sub (pv 1) pe_int) pa_nil))) pa_nil))))) pss_nil)
    (pss_one (ps_ret (pe_ifExp (pt_cmpR op_eq (pv 2) pe_int (nomark _)) (pe_tup (pa_cons pe_str (pa_cons (pe_call G hr rfl mF F.kp b2 .nil pass0 (pa_cons (pv 0) (pa_cons (pe_op op_sub (pv 1) pe_int) pa_nil))) (pa_cons (pe_call G hr rfl mF F.kp b2 .nil pass0 (pa_cons (pv 0) (pa_cons (pe_op op_sub (pv 1) pe_int) pa_nil))) pa_nil))))
      (pe_call GV r2 rfl mV kV bV .nil pass0 (pa_cons (pv 0) pa_nil))))))), ?_⟩
  have p1 : 1 ≤ 2 ^ d := Nat.one_le_two_pow
  have p2 : 2 ^ (d + 1) = 2 * 2 ^ d := by rw [Nat.pow_succ]; omega
  refine ⟨_, rfl, b, _, j, rfl, B, by omega, by decide, by decide, fun way H1 w0 w5 B1 o1 => ?_⟩
  -- a variable, drawn
  have var : ∀ (H2 : Hp) (j2 : Nat), BoxAt H2 b j2 → But b H H2 → j2 + 3 ≤ j + (6 * 2 ^ d - 1) → ∀ E', spLVar [.ref b] H2 Q E' := fun H2 j2 B2 o2 le _ => ⟨b, j2, rfl, B2, by omega, fun m H3 m0 m9 B3 o3 =>
    q (.int m) (.v m) H3 (.v m) (fun k hk => by simp [Tm.nums] at hk; subst hk; exact ⟨m0, m9⟩) (by show 1 + 1 ≤ _; omega) (B3.more (by omega)) (o2.trans o3)⟩
  refine ⟨_, rfl, _, _, rfl, rfl, decide ((d : Int) < 1), rfl, ?_⟩
  by_cases hd : d = 0
  · rw [decide_eq_true (by omega)]
    refine iteT ?_
    refine ⟨_, rfl, b, _, _, rfl, B1, by omega, by decide, by decide, fun r3 H2 c0 c1 B2 o2 => ?_⟩
    refine ⟨_, _, rfl, rfl, decide ((0 : Int) < r3), rfl, ?_⟩
    by_cases h3 : (0 : Int) < r3
    · rw [decide_eq_true h3]
      exact iteT ⟨_, rfl, var H2 _ B2 (o1.trans o2) (by omega) E⟩
    · rw [decide_eq_false h3]
      refine iteF ⟨(by show 1 ≤ sizeLine; decide), fun c hc => ?_⟩
      have s3 := same_new hc (.tup [V.str "0"])
      exact q (.ref c) .z _ (.z upd_same) (fun k hk => by simp [Tm.nums] at hk) (by show 1 + 1 ≤ _; omega) ((B2.same s3).more (by omega)) (o1.trans (o2.trans (but_of s3)))
  · rw [decide_eq_false (by omega)]
    by_cases hw : way = 0
    · refine iteF ⟨_, rfl, rfl, true, congrArg V.bl (decide_eq_true (by rw [hw])), iteT ?_⟩
      refine ⟨_, rfl, b, _, _, rfl, B1, by omega, by decide, by decide, fun r3 H2 c0 c1 B2 o2 => ?_⟩
      refine ⟨_, _, rfl, rfl, decide ((0 : Int) < r3), rfl, ?_⟩
      by_cases h3 : (0 : Int) < r3
      · rw [decide_eq_true h3]
        exact iteT ⟨_, rfl, var H2 _ B2 (o1.trans o2) (by omega) E⟩
      · rw [decide_eq_false h3]
        refine iteF ⟨(by show 1 ≤ sizeLine; decide), fun c hc => ?_⟩
        have s3 := same_new hc (.tup [V.str "0"])
        exact q (.ref c) .z _ (.z upd_same) (fun k hk => by simp [Tm.nums] at hk) (by show 1 + 1 ≤ _; omega) ((B2.same s3).more (by omega)) (o1.trans (o2.trans (but_of s3)))
    · refine iteF ⟨_, rfl, rfl, false, congrArg V.bl (decide_eq_false (fun z => hw (by injection z))), iteF ?_⟩
      obtain ⟨e, rfl⟩ : ∃ e, d = e + 1 := ⟨d - 1, by omega⟩
      have e1 : ([V.ref b, V.int (((e + 1 : Nat) : Int) - 1)] : List V) = [V.ref b, V.int (e : Nat)] := by rw [show (((e + 1 : Nat) : Int) - 1) = (e : Nat) by omega]
      have p0 : 1 ≤ 2 ^ e := Nat.one_le_two_pow
      have p3 : 2 ^ (e + 1) = 2 * 2 ^ e := by rw [Nat.pow_succ]; omega
      refine ⟨_, rfl, _, _, rfl, rfl, decide (way < 3), rfl, ?_⟩
      by_cases h3 : way < 3
      · rw [decide_eq_true h3]
        refine iteT ⟨_, rfl, _, rfl, _, _, rfl, rfl, b, _, e, e1, B1, by omega, by omega, by omega, fun v t H2 T sm sz B2 o2 => ?_⟩
        refine ⟨(by show 2 ≤ sizeLine; decide), fun c hc => ?_⟩
        have s3 := same_new hc (.tup [V.str "s", v])
        exact q (.ref c) (.s t) _ (.s upd_same (T.same s3)) sm (by rw [p2]; simp only [Tm.size]; omega) ((B2.same s3).more (by omega)) (o1.trans (o2.trans (but_of s3)))
      · rw [decide_eq_false h3]
        by_cases h4 : way = 3
        · refine iteF ⟨_, rfl, rfl, true, congrArg V.bl (decide_eq_true (by rw [h4])), iteT ?_⟩
          refine ⟨_, rfl, _, rfl, _, _, rfl, rfl, b, _, e, e1, B1, by omega, by omega, by omega, fun v t H2 T sm sz B2 o2 => ?_⟩
          refine ⟨_, rfl, _, rfl, _, _, rfl, rfl, b, _, e, e1, B2, by omega, by omega, by omega, fun v' t' H3 T' sm' sz' B3 o3 => ?_⟩
          refine ⟨(by show 3 ≤ sizeLine; decide), fun c hc => ?_⟩
          have s4 := same_new hc (.tup [V.str "f", v, v'])
          exact q (.ref c) (.f t t') _ (.f upd_same ((T.box o3 B2).same s4) (T'.same s4)) (fun k hk => by
            rcases List.mem_append.mp hk with hk | hk
            · exact sm k hk
            · exact sm' k hk) (by rw [p2]; simp only [Tm.size]; omega) ((B3.same s4).more (by omega)) (o1.trans (o2.trans (o3.trans (but_of s4))))
        · refine iteF ⟨_, rfl, rfl, false, congrArg V.bl (decide_eq_false (fun z => h4 (by injection z))), iteF ⟨_, rfl, var H1 _ B1 o1 (by omega) E⟩⟩
theorem lterm_ok {f fT fV : Addr} {fd fdT dV : FuncData} (F : Fun K "_law_term" "_law_term" sTermL f fd) (b2 : Binds K fd ["_law_box_here", "_law_deep"] []) (mF : mg "_law_term" = some (.ref f))
    (FT : Fun K "_law_take" "_law_take" sTake fT fdT) (bT : Binds K fdT ["_law_box_here", "_law_top"] []) (mT : mg "_law_take" = some (.ref fT))
    (GV : FnOk P w K mg base CX0 2 fV dV ["_law_box_here"] spLVar) (kV : PySem.W.keepIn K (.ref fV) = true) (bV : Binds K dV ["_law_box_here"] []) (mV : mg "_law_variable" = some (.ref fV)) :
    ∀ n : Nat, FnOk P w K mg base CX0 (n + 2) f fd ["_law_box_here", "_law_deep"] (spLTerm n)
  | 0 => none_left fun vs H Q E h => by
    obtain ⟨b, j, d, _, _, h, _⟩ := h
    omega
  | n + 1 => ok_lterm F b2 mF (lterm_ok F b2 mF FT bT mT GV kV bV mV n) FT bT mT GV kV bV mV
end
end Rp

set_option maxHeartbeats 8000000
/-! The law's heads. -/
namespace Rp
open PySem PySem.Spec PyProof.Rows L2 TL StX
def spLHead : Sp := fun vs H Q _ => ∃ (b : Addr) (j m : Nat) (x : Str), vs = [.ref b, .str x, .int m] ∧ BoxAt H b j ∧ j + 2 ≤ 1000000 ∧ NameOk x ∧ 1 ≤ m ∧ m ≤ 2 ∧
  ∀ (p : Addr) (v : V) (a : At) (H' : Hp), H' p = some (.tup [v, .int ((hvars a.ts).length : Nat)]) → AtAt H' v a → a.nm = x → a.ts.length = m → HdOk a → BoxAt H' b (j + 2) → But b H H' → Q (.ref p) H'
section
variable {P : Program} {w : World} {K : PySem.W.Frag} {mg : Str → Option Value} {base : Heap}
theorem scLHead : FnScope ["_law_box_here", "_law_word", "_law_many", "_law_parts", "_law_count", "_law_turn", "_law_way"] ["_law_box_here", "_law_word", "_law_many"] (defScope sHead) := ⟨rfl, rfl, rfl, by decide +kernel, rfl, by decide +kernel, by decide +kernel⟩
theorem ok_lhead {f fT : Addr} {fd fdT : FuncData} (F : Fun K "_law_head" "_law_head" sHead f fd) (FT : Fun K "_law_take" "_law_take" sTake fT fdT) (bT : Binds K fdT ["_law_box_here", "_law_top"] []) (mT : mg "_law_take" = some (.ref fT))
    (mRange : mg "range" = none) (mTuple : mg "tuple" = none) : FnOk P w K mg base CX0 2 f fd ["_law_box_here", "_law_word", "_law_many"] spLHead := by
  have GT : FnOk P w K mg base CX0 1 fT fdT ["_law_box_here", "_law_top"] spTake := ok_take FT
  refine F.ok scLHead (fun vs H Q E h => ?_) (fun cdv A outer s H vs Q E hr h => ?_)
  · obtain ⟨b, j, m, x, rfl, _⟩ := h
    rfl
  obtain ⟨b, j, m, x, rfl, B, hj, nx, m1, m2, q⟩ := h
  refine ⟨_, pss_cons (ps_par (i := 3) (j := 4) rfl scLHead.nd rfl rfl (by decide) rfl rfl (pa_cons (pe_lst (pa_cons (pv 1) pa_nil)) (pa_cons pe_int pa_nil)) (by rfl))
    (pss_cons (ps_for PassesOwn.never rfl (pi_range1 (by rfl) mRange (pa_cons (pv 2) pa_nil)) (pg_name (i := 5) scLHead.nd rfl (Or.inl rfl))
      (pss_cons (ps_set (i := 6) scLHead.nd rfl (Or.inl rfl) (pe_call GT hr rfl mT FT.kp bT .nil pass0 (pa_cons (pv 0) (pa_cons pe_int pa_nil))))
      (pss_cons (ps_if (pt_cmpR op_eq (pv 6) pe_int (nomark _)) (pss_one (ps_expr (pe_bm PySem.F.plainAttrs_list PySem.F.slot_list_append PySem.F.type_list_append mt_append (pv 3) (pa_cons (pe_tup (pa_cons pe_str pa_nil)) pa_nil))))
        (pss_one (ps_if (pt_cmpR op_eq (pv 6) pe_int (nomark _)) (pss_one (ps_expr (pe_bm PySem.F.plainAttrs_list PySem.F.slot_list_append PySem.F.type_list_append mt_append (pv 3) (pa_cons (pv 4) pa_nil))))
        (pss_one (ps_if (pt_cmpR op_eq (pv 6) pe_int (nomark _)) (pss_one (ps_expr (pe_bm PySem.F.plainAttrs_list PySem.F.slot_list_append PySem.F.type_list_append mt_append (pv 3) (pa_cons (pe_tup (pa_cons pe_str (pa_cons (pv 4) pa_nil))) pa_nil))))
          (pss_one (ps_expr (pe_bm PySem.F.plainAttrs_list PySem.F.slot_list_append PySem.F.type_list_append mt_append (pv 3) (pa_cons (pe_tup (pa_cons pe_str (pa_cons (pv 4) (pa_cons (pe_op op_add (pv 4) pe_int) pa_nil)))) pa_nil)))))))))
      (pss_one (ps_set (i := 4) scLHead.nd rfl (Or.inl rfl) (pe_op op_add (pv 4) (pe_ix ix_list (pe_lst (pa_cons pe_int (pa_cons pe_int (pa_cons pe_int (pa_cons pe_int pa_nil))))) (pv 6) (fun _ _ => rfl))))))))
    (pss_one (ps_ret (pe_tup (pa_cons (pe_callTy call_tuple_of (by rfl) mTuple (by decide +kernel) (pa_cons (pv 3) pa_nil)) (pa_cons (pv 4) pa_nil)))))), ?_⟩
  have big : (10000 : Nat) ≤ sizeLine := by decide
  obtain ⟨ys, hb⟩ := B.some
  refine ⟨_, rfl, (by show 1 ≤ sizeLine; decide), fun l hl => ⟨_, _, rfl, ?_⟩⟩
  have s1 := same_new hl (.lst [V.str x])
  have lb : l ≠ b := fun e => by subst e; rw [hb] at hl; cases hl
  refine ⟨_, rfl, _, rfl, by omega, by omega, for_range (lo := 0) (n := (m : Int).toNat) (fun i σ H2 => ∃ (xs : List V) (ts : List Tm) (c : Nat) (tv wv : Option V), σ = [some (.ref b), some (.str x), some (.int m), some (.ref l), some (.int (c : Nat)), tv, wv] ∧
      H2 l = some (.lst (.str x :: xs)) ∧ AllAt H2 xs ts ∧ ts.length = i ∧ (∀ t ∈ ts, t.plain ∧ t.small ∧ t.size ≤ 3) ∧ hvars ts = (List.range c).map Int.ofNat ∧ c ≤ 2 * i ∧ BoxAt H2 b (j + i) ∧ But b H H2)
    ⟨[], [], 0, none, none, rfl, upd_same, trivial, rfl, by simp, rfl, by omega, (B.same s1).more (by omega), but_of s1⟩ ?_ ?_⟩
  · rintro i σ H2 hi ⟨xs, ts, c, tv, wv, rfl, hl2, A2, tl, pl, hv, hc, B2, o2⟩
    refine ⟨_, rfl, b, _, _, rfl, B2, by omega, by decide, by decide, fun way H3 w0 w4 B3 o3 => ?_⟩
    have h3l : H3 l = some (.lst (.str x :: xs)) := o3 _ _ hl2 lb
    have A3 : AllAt H3 xs ts := A2.mono fun a zs z => by
      obtain ⟨ys2, hb2⟩ := B2.some
      exact o3 _ _ z (ne_of z hb2 (by intro e; cases e))
    have xl := A2.len
    have go : ∀ (t : Tm) (v : V) (k : Nat) (cv : Int) (iv wv2 : Option V) (H4 : Hp), Same H3 H4 → TmAt H4 v t → t.plain → t.small → t.size ≤ 3 → t.nums = (List.range k).map (fun n => Int.ofNat (c + n)) → k ≤ 2 → cv = (c + k : Nat) → ∀ d, (upd H4 l (.lst ((.str x :: xs) ++ [v]))) d = none →
        ∃ (xs' : List V) (ts' : List Tm) (c' : Nat) (tv' wv' : Option V), [some (.ref b), some (.str x), some (.int m), some (.ref l), some (.int cv), iv, wv2] = [some (.ref b), some (.str x), some (.int m), some (.ref l), some (.int (c' : Nat)), tv', wv'] ∧
          (upd (upd H4 l (.lst ((.str x :: xs) ++ [v]))) d (.lst [.int 0, .int 1, .int 1, .int 2])) l = some (.lst (.str x :: xs')) ∧ AllAt (upd (upd H4 l (.lst ((.str x :: xs) ++ [v]))) d (.lst [.int 0, .int 1, .int 1, .int 2])) xs' ts' ∧ ts'.length = i + 1 ∧ (∀ t ∈ ts', t.plain ∧ t.small ∧ t.size ≤ 3) ∧ hvars ts' = (List.range c').map Int.ofNat ∧ c' ≤ 2 * (i + 1) ∧
          BoxAt (upd (upd H4 l (.lst ((.str x :: xs) ++ [v]))) d (.lst [.int 0, .int 1, .int 1, .int 2])) b (j + (i + 1)) ∧ But b H (upd (upd H4 l (.lst ((.str x :: xs) ++ [v]))) d (.lst [.int 0, .int 1, .int 1, .int 2])) := by
      intro t v k cv iv wv2 H4 s4 T tp ts_ tz nums k2 hcv d hd
      subst hcv
      have s5 := same_new hd (.lst [.int 0, .int 1, .int 1, .int 2])
      have h4l := s4 _ _ h3l
      have keep : ∀ a zs, H4 a = some (.tup zs) → (upd H4 l (.lst ((.str x :: xs) ++ [v]))) a = some (.tup zs) := fun a zs z => by rw [upd_ne (ne_of z h4l (by intro e; cases e))]; exact z
      refine ⟨xs ++ [v], ts ++ [t], c + k, iv, wv2, rfl, s5 _ _ upd_same, ((A3.mono fun a zs z => s5 _ _ (keep _ _ (s4 _ _ z))).append ⟨T.mono fun a zs z => s5 _ _ (keep _ _ z), trivial⟩), by rw [List.length_append, tl]; rfl, ?_, ?_, by omega, ?_, ?_⟩
      · intro u hu
        rcases List.mem_append.mp hu with hu | hu
        · exact pl u hu
        · obtain rfl : u = t := by simpa using hu
          exact ⟨tp, ts_, tz⟩
      · have e : hvars (ts ++ [t]) = hvars ts ++ t.nums := by simp [hvars]
        rw [e, hv, nums, List.range_add, List.map_append, List.map_map]
        rfl
      · have B5 : BoxAt (upd H4 l (.lst ((.str x :: xs) ++ [v]))) b (j + i + 1) := by
          obtain ⟨x3, y3, z3, h3, r3⟩ := (B3.same s4).ex
          exact ⟨x3, y3, z3, by rw [upd_ne lb.symm]; exact h3, r3⟩
        exact (B5.same s5).more (by omega)
      · intro c' o z nb
        refine s5 _ _ ?_
        rw [upd_ne (ne_of_none z hl)]
        exact s4 _ _ (o3 _ _ (o2 _ _ z nb) nb)
    rcases (by omega : way = 0 ∨ way = 1 ∨ way = 2 ∨ way = 3) with e | e | e | e <;> subst e
    · refine ⟨_, rfl, rfl, true, rfl, iteT ?_⟩
      refine ⟨_, rfl, .inl ⟨rfl, _, .inl (.inl h3l)⟩, (by show 1 ≤ sizeLine; decide), fun g hg => ⟨l, _, _, rfl, rfl, (same_new hg _) _ _ h3l, (by rw [List.length_cons]; omega), ?_⟩⟩
      refine ⟨_, rfl, (by show 4 ≤ sizeLine; decide), fun d hd => ⟨_, rfl, d, _, _, _, rfl, rfl, .inl (.inl upd_same), at_of (j := 0) rfl rfl, _, _, rfl, rfl, ?_⟩⟩
      exact go .z (.ref g) 0 _ _ _ _ (same_new hg _) (.z upd_same) trivial (fun k hk => by simp [Tm.nums] at hk) (by decide) rfl (by decide) (by omega) d hd
    · refine ⟨_, rfl, rfl, false, rfl, iteF ⟨_, rfl, rfl, true, rfl, iteT ?_⟩⟩
      refine ⟨_, rfl, .inl ⟨rfl, _, .inl (.inl h3l)⟩, _, rfl, l, _, _, rfl, rfl, h3l, (by rw [List.length_cons]; omega), ?_⟩
      refine ⟨_, rfl, (by show 4 ≤ sizeLine; decide), fun d hd => ⟨_, rfl, d, _, _, _, rfl, rfl, .inl (.inl upd_same), at_of (j := 1) rfl rfl, _, _, rfl, rfl, ?_⟩⟩
      exact go (.v c) (.int c) 1 _ _ _ _ (Same.refl _) (.v c) trivial (fun k hk => by simp [Tm.nums] at hk; subst hk; omega) (by show 1 ≤ 3; decide) rfl (by decide) (by omega) d hd
    · refine ⟨_, rfl, rfl, false, rfl, iteF ⟨_, rfl, rfl, false, rfl, iteF ⟨_, rfl, rfl, true, rfl, iteT ?_⟩⟩⟩
      refine ⟨_, rfl, .inl ⟨rfl, _, .inl (.inl h3l)⟩, _, rfl, (by show 2 ≤ sizeLine; decide), fun g hg => ⟨l, _, _, rfl, rfl, (same_new hg _) _ _ h3l, (by rw [List.length_cons]; omega), ?_⟩⟩
      refine ⟨_, rfl, (by show 4 ≤ sizeLine; decide), fun d hd => ⟨_, rfl, d, _, _, _, rfl, rfl, .inl (.inl upd_same), at_of (j := 2) rfl rfl, _, _, rfl, rfl, ?_⟩⟩
      exact go (.s (.v c)) (.ref g) 1 _ _ _ _ (same_new hg _) (.s upd_same (.v c)) trivial (fun k hk => by simp [Tm.nums] at hk; subst hk; omega) (by show 2 ≤ 3; decide) rfl (by decide) (by omega) d hd
    · refine ⟨_, rfl, rfl, false, rfl, iteF ⟨_, rfl, rfl, false, rfl, iteF ⟨_, rfl, rfl, false, rfl, iteF ?_⟩⟩⟩
      refine ⟨_, rfl, .inl ⟨rfl, _, .inl (.inl h3l)⟩, _, rfl, _, rfl, _, _, rfl, rfl, (by show 3 ≤ sizeLine; decide), fun g hg => ⟨l, _, _, rfl, rfl, (same_new hg _) _ _ h3l, (by rw [List.length_cons]; omega), ?_⟩⟩
      refine ⟨_, rfl, (by show 4 ≤ sizeLine; decide), fun d hd => ⟨_, rfl, d, _, _, _, rfl, rfl, .inl (.inl upd_same), at_of (j := 3) rfl rfl, _, _, rfl, rfl, ?_⟩⟩
      exact go (.f (.v c) (.v (c + 1))) (.ref g) 2 _ _ _ _ (same_new hg _) (.f upd_same (.v c) (.v _)) trivial (fun k hk => by simp [Tm.nums] at hk; rcases hk with hk | hk <;> subst hk <;> omega) (by show 3 ≤ 3; decide) rfl (by decide) (by omega) d hd
  · rintro σ H2 ⟨xs, ts, c, tv, wv, rfl, hl2, A2, tl, pl, hv, hc, B2, o2⟩
    refine ⟨_, rfl, l, _, rfl, .inl ⟨.inl (.inl hl2), fun t ht => ⟨_, rfl, (by show 2 ≤ sizeLine; decide), fun p hp => ?_⟩⟩⟩
    have s3 := same_new ht (.tup (V.str x :: xs))
    have s4 := same_new hp (.tup [V.ref t, V.int (c : Nat)])
    have cl : (hvars ts).length = c := by rw [hv, List.length_map, List.length_range]
    have tm : ts.length = m := by rw [tl]; omega
    refine q p (.ref t) ⟨x, ts⟩ _ (by rw [upd_same, cl]) ⟨t, xs, rfl, s4 _ _ upd_same, A2.mono fun a zs z => s4 _ _ (s3 _ _ z)⟩ rfl tm
      { nm := nx, one := by rw [tm]; exact m1, two := by rw [tm]; exact m2, sm := fun u hu => ⟨(pl u hu).2.1, by have := (pl u hu).2.2; omega⟩, pl := fun u hu => (pl u hu).1, rng := by rw [cl]; exact hv } ?_ (o2.trans ((but_of s3).trans (but_of s4)))
    exact ((B2.same s3).same s4).more (by omega)
end
end Rp

set_option maxHeartbeats 8000000
/-! The law's folded script, its words. -/
namespace Rp
open PySem PySem.Spec PyProof.Rows L2 TL StX
theorem cut_to {xs : List V} (n : Nat) : cutV xs none (some (n : Int)) = xs.take n := by
  unfold cutV
  rw [HT.sIx_none, HT.sIx_nat, List.drop_zero, Nat.sub_zero]
  rcases Nat.le_total n xs.length with h | h
  · rw [Nat.min_eq_left h]
  · rw [Nat.min_eq_right h, List.take_length, List.take_of_length_le h]
theorem cut_mid {xs : List V} (n m : Nat) : ∃ a b, cutV xs (some (n : Int)) (some (m : Int)) = (xs.drop (min n xs.length)).take b ∧ a = b := ⟨_, _, by unfold cutV; rw [HT.sIx_nat, HT.sIx_nat], rfl⟩
theorem eqv_lnil {ds : List PyData} : PyData.eqv (.list ds) (.list []) = ds.isEmpty := by
  cases ds <;> simp [PyData.eqv, PyData.eqvAll]
theorem ixN_int {n : Nat} {i : Int} (h : 0 ≤ i ∧ i < n) : ixN n i = some i.toNat := by unfold ixN; rw [if_pos h.1, if_pos h.2]
theorem but_none {H H' : Hp} {b : Addr} {j : Nat} (o : But b H H') (B : BoxAt H' b j) {D : Addr} (h : H' D = none) : H D = none := by
  cases e : H D with
  | none => rfl
  | some u =>
    have nb : D ≠ b := by
      rintro rfl
      obtain ⟨ys, hb⟩ := B.some
      rw [hb] at h; cases h
    have := o _ _ e nb
    rw [h] at this; cases this
theorem BoxAt.upd {H : Hp} {b D : Addr} {j : Nat} (B : BoxAt H b j) (n : D ≠ b) (o : HO) : BoxAt (L2.upd H D o) b j := by
  obtain ⟨x, y, z, h, r⟩ := B.ex
  exact ⟨x, y, z, by rw [upd_ne n.symm]; exact h, r⟩
def spFolded (K : PySem.W.Frag) : Sp := fun vs H Q _ => ∃ (a : Addr) (ns : List Int), vs = [.ref a, .int 4] ∧ SqL K H a (ns.map V.int) ∧ ns.length ≤ 63 ∧
  ∀ (p : Addr) (cs : List Int) (H' : Hp), H p = none → H' p = some (.lst (cs.map V.int)) → 1 ≤ cs.length → cs.length ≤ 4 → Same H H' → Q (.ref p) H'
def Low (x : Str) : Prop := ∀ c ∈ tl x, 97 ≤ c ∧ c ≤ 122
theorem low_cut {z : Str} (h : Low z) (lo hi : Option Int) : Low (cutS z lo hi) := by
  intro c hc
  have hc : c ∈ (z.cps.toList.drop (HT.sIx z.length 0 lo)).take (HT.sIx z.length z.length hi - HT.sIx z.length 0 lo) := hc
  exact h c (List.mem_of_mem_drop (List.mem_of_mem_take hc))
theorem cutS_parts {z : Str} {k : Nat} (h : k ≤ z.length) : (cutS z none (some (k : Int))).length = k ∧ (cutS z (some (k : Int)) none).length = z.length - k := by
  have e : z.cps.toList.length = z.length := Array.length_toList
  constructor
  · show (((z.cps.toList.drop (HT.sIx z.length 0 none)).take (HT.sIx z.length z.length (some (k : Int)) - HT.sIx z.length 0 none)).toArray).size = k
    rw [List.size_toArray, HT.sIx_none, HT.sIx_nat, List.length_take, List.length_drop, e]
    omega
  · show (((z.cps.toList.drop (HT.sIx z.length 0 (some (k : Int)))).take (HT.sIx z.length z.length none - HT.sIx z.length 0 (some (k : Int)))).toArray).size = _
    rw [List.size_toArray, HT.sIx_none, HT.sIx_nat, List.length_take, List.length_drop, e]
    omega
theorem low_append {a b : Str} (ha : Low a) (hb : Low b) : Low (a ++ b) := by
  intro c hc
  rw [tl_append] at hc
  rcases List.mem_append.mp hc with hc | hc
  · exact ha c hc
  · exact hb c hc
theorem low_one {c : Nat} (h : 97 ≤ c ∧ c ≤ 122) : Low ⟨#[c]⟩ := by
  intro d hd
  have hd : d ∈ [c] := hd
  simp at hd
  omega
theorem low_join : ∀ ys : List Str, (∀ y ∈ ys, y.length = 1 ∧ Low y) → (Txt.join "" ys).length = ys.length ∧ Low (Txt.join "" ys)
  | [], _ => ⟨by decide +kernel, fun c hc => by have : tl (Txt.join "" []) = [] := by decide +kernel
                                                rw [this] at hc; simp at hc⟩
  | [x], h => by rw [join1]; exact h x (by simp)
  | x :: y :: l, h => by
    have ih := low_join (y :: l) fun z hz => h z (by simp at hz ⊢; exact .inr hz)
    have hx := h x (by simp)
    rw [TL.join_eq] at ih ⊢
    have e0 : ("" : Str).length = 0 := by decide +kernel
    have le : Low ("" : Str) := fun c hc => by have : tl ("" : Str) = [] := by decide +kernel
                                               rw [this] at hc; simp at hc
    refine ⟨?_, low_append (low_append hx.2 le) ih.2⟩
    show (x ++ "" ++ Str.join "" (y :: l)).length = _
    rw [slen, slen, e0, hx.1, ih.1]
    simp only [List.length_cons]
    omega
theorem letter_at {i : Int} (h : 0 ≤ i ∧ i < 26) : ∃ c, atI letters.cps.toList i = some c ∧ 97 ≤ c ∧ c ≤ 122 := by
  have all : ∀ k : Fin 26, atI letters.cps.toList (k.val : Int) = some (97 + k.val) := by decide +kernel
  obtain ⟨k, rfl⟩ := Int.eq_ofNat_of_zero_le h.1
  exact ⟨_, all ⟨k, by omega⟩, by show 97 ≤ 97 + k; omega, by show 97 + k ≤ 122; omega⟩
def spWords : Sp := fun vs H Q _ => ∃ (b : Addr) (j : Nat), vs = [.ref b, .int 4] ∧ BoxAt H b j ∧ j + 10 ≤ 1000000 ∧
  ∀ (p : Addr) (ws : List Str) (H' : Hp), H p = none → H' p = some (.lst (ws.map V.str)) → ws.length = 4 → (∀ x ∈ ws, NameOk x) → BoxAt H' b (j + 10) → But b H H' → Q (.ref p) H'
def rMod : R2 := rI (fun _ j => 0 < j) fun i j => .int (i % j)
def rMulI : R2 := rI CMul fun i j => .int (i * j)
def rAddI : R2 := rI0 fun i j => .int (i + j)
def rAddS : R2 := fun x y H Q => ∃ i j, x = .str i ∧ y = .str j ∧ i.length + j.length ≤ sizeLine ∧ Q (.str (i ++ j)) H
theorem op_modP {X : Cx} : OpR X (binaryOp .Mod) rMod := op_mod
theorem op_mulI {X : Cx} : OpR X (binaryOp .Mult) rMulI := op_mul
theorem op_addI {X : Cx} : OpR X (binaryOp .Add) rAddI := op_add
theorem op_addS {X : Cx} : OpR X (binaryOp .Add) rAddS := op_add_str
def teLetter : TE := tOp rIxS (tVar 2) (tCall spTake [] E0 (tCons (tVar 0) (tCons (tC (.int 26)) tNil)))
def teName : TE := tOp rAddS (tOp rAddS (tSl rSlS (tVar 5) tNoPart (tPart (tVar 6))) (tOp rIxS (tVar 2) (tOp rMod (tOp rAddI (tVar 3) (tOp rMulI (tVar 4) (tVar 8))) (tC (.int 26))))) (tSl rSlS (tVar 5) (tPart (tVar 6)) tNoPart)
def teIff : TE := tIf (tTest (tOp rEq (tVar 9) (tC (.str "if")))) (tC (.str "iff")) (tVar 9)
section
variable {P : Program} {w : World} {K : PySem.W.Frag} {mg : Str → Option Value} {base : Heap}
theorem scFolded : FnScope ["_law_script", "_law_count", "_law_cells", "_law_k", "_law_cell"] ["_law_script", "_law_count"] (defScope sFolded) := ⟨rfl, rfl, rfl, by decide +kernel, rfl, by decide +kernel, by decide +kernel⟩
theorem ok_folded {f : Addr} {fd : FuncData} (F : Fun K "_law_folded" "_law_folded" sFolded f fd) (mList : mg "list" = none) (mEnum : mg "enumerate" = none) : FnOk P w K mg base CX0 1 f fd ["_law_script", "_law_count"] (spFolded K) := by
  refine F.ok scFolded (fun vs H Q E h => ?_) (fun cdv A outer s H vs Q E hr h => ?_)
  · obtain ⟨a, ns, rfl, _⟩ := h
    rfl
  obtain ⟨a, ns, rfl, hS, hl, q⟩ := h
  refine ⟨_, pss_cons (ps_set (i := 2) scFolded.nd rfl (Or.inl rfl) (pe_callTy call_list_of (by rfl) mList (by decide +kernel) (pa_cons (pe_slice sl_list (pv 0) po_none (po_some (pv 1))) pa_nil)))
    (pss_cons (ps_for PassesOwn.never rfl (pi_enum (by rfl) mEnum (pa_cons (pe_slice sl_list (pv 0) (po_some (pv 1)) (po_some pe_int)) pa_nil)) (pg_tup (by rfl) (pgs_cons (pg_name (i := 3) scFolded.nd rfl (Or.inl rfl)) (pgs_cons (pg_name (i := 4) scFolded.nd rfl (Or.inl rfl)) pgs_nil)))
      (pss_one (ps_asg (pe_op op_addI (pe_ix ix_list (pv 2) (pe_op op_modP (pv 3) (pv 1)) (fun _ _ => rfl)) (pe_op op_mulI (pv 4) (pe_op op_addI (pv 3) pe_int))) (pg_sub (pv 2) (pe_op op_modP (pv 3) (pv 1)) set_list))))
    (pss_one (ps_ret (pe_ifExp (pt_cmpR (op_neD hr.units) (pv 2) (pe_lst pa_nil) (nomark _)) (pv 2) (pe_lst (pa_cons pe_int pa_nil)))))), ?_⟩
  have big : (10000 : Nat) ≤ sizeLine := by decide
  have e1 : cutV (ns.map V.int) none (some 4) = (ns.take 4).map V.int := by rw [show (some 4 : Option Int) = some ((4 : Nat) : Int) from rfl, cut_to, List.map_take]
  obtain ⟨ms, e2, ml⟩ : ∃ ms : List Int, cutV (ns.map V.int) (some 4) (some 63) = ms.map V.int ∧ (ms.length ≤ 63 ∧ (0 < ms.length → 4 ≤ ns.length)) := by
    refine ⟨(ns.drop (min 4 ns.length)).take (min 63 ns.length - min 4 ns.length), ?_, ?_⟩
    · rw [show (some 4 : Option Int) = some ((4 : Nat) : Int) from rfl, show (some 63 : Option Int) = some ((63 : Nat) : Int) from rfl]
      unfold cutV
      rw [HT.sIx_nat, HT.sIx_nat, List.length_map, List.map_take, List.map_drop]
    · rw [List.length_take, List.length_drop]
      omega
  refine ⟨_, rfl, _, rfl, 4, rfl, a, _, rfl, hS, fun p hp => ?_⟩
  rw [e1]
  have s1 := same_new hp (.lst ((ns.take 4).map V.int))
  refine ⟨p, _, rfl, .inl (.inl (.inl upd_same)), fun l hl => ?_⟩
  have s2 := same_new hl (.lst ((ns.take 4).map V.int))
  have s12 := s1.trans s2
  refine ⟨_, rfl, _, rfl, 4, rfl, 63, rfl, a, _, rfl, s12.seq hS, fun g hg => ?_⟩
  rw [e2]
  have s3 := same_new hg (.lst (ms.map V.int))
  have lg : l ≠ g := ne_of_none upd_same hg
  refine ⟨g, _, rfl, .inl (.inl upd_same), for_it walk_enum (fun i σ H3 => ∃ (cs : List Int) (x3 x4 : Option V), σ = [some (.ref a), some (.int 4), some (.ref l), x3, x4] ∧ H3 l = some (.lst (cs.map V.int)) ∧ cs.length = (ns.take 4).length ∧ H3 g = some (.lst (ms.map V.int)) ∧ Same H H3)
    ⟨ns.take 4, _, _, rfl, s3 _ _ upd_same, rfl, upd_same, s12.trans s3⟩ (fun i σ H3 _ ⟨_, _, _, _, _, _, h, _⟩ => .inl (.inl h)) ?_ ?_⟩
  · rintro i x σ H3 H4 hi ⟨cs, x3, x4, rfl, h3l, cl, h3g, s⟩ ⟨T, u, v, rfl, hT, rfl, hu, hv⟩
    obtain rfl := Option.some.inj hu
    rw [List.length_map] at hi
    have four := ml.2 (by omega)
    have m63 := ml.1
    have cl4 : cs.length = 4 := by rw [cl, List.length_take]; omega
    have hv : (ms.map V.int)[i]? = some v := hv
    rw [List.getElem?_map, List.getElem?_eq_getElem hi] at hv
    obtain rfl := Option.some.inj hv
    have sT := same_new hT (.tup [V.int (i : Nat), V.int ms[i]])
    refine ⟨T, _, rfl, .inl (.inl upd_same), rfl, _, _, rfl, _, _, rfl, rfl, ?_⟩
    have m0 : 0 ≤ (i : Int) % 4 ∧ (i : Int) % 4 < 4 := by omega
    have lt : ((i : Int) % 4).toNat < cs.length := by omega
    have hix : ixN (cs.map V.int).length ((i : Int) % 4) = some ((i : Int) % 4).toNat := by rw [List.length_map]; exact ixN_int ⟨m0.1, by omega⟩
    have hat : atI (cs.map V.int) ((i : Int) % 4) = some (V.int cs[((i : Int) % 4).toNat]) := by
      unfold atI
      rw [hix]
      show (cs.map V.int)[((i : Int) % 4).toNat]? = _
      rw [List.getElem?_map, List.getElem?_eq_getElem lt]
      rfl
    refine ⟨_, rfl, _, rfl, _, rfl, _, _, rfl, rfl, (by show (0 : Int) < 4; decide), l, _, _, _, rfl, rfl, .inl (.inl (sT _ _ h3l)), hat, ?_⟩
    refine ⟨_, rfl, _, rfl, _, _, rfl, rfl, _, _, rfl, rfl, .inr ⟨by omega, by omega⟩, _, _, rfl, rfl, ?_⟩
    refine ⟨_, rfl, _, rfl, _, rfl, _, _, rfl, rfl, (by show (0 : Int) < 4; decide), l, _, _, _, rfl, rfl, sT _ _ h3l, hix, ?_⟩
    refine ⟨cs.set ((i : Int) % 4).toNat (cs[((i : Int) % 4).toNat] + ms[i] * ((i : Nat) + 2)), _, _, rfl, ?_, ?_, ?_, ?_⟩
    · rw [upd_same, List.map_set]
    · rw [List.length_set, cl]
    · rw [upd_ne lg.symm]
      exact sT _ _ h3g
    · intro c o z
      have cn : c ≠ l := ne_of_none (s1 _ _ z) hl
      rw [upd_ne cn]
      exact sT _ _ (s _ _ z)
  · rintro σ H3 ⟨cs, x3, x4, rfl, h3l, cl, h3g, s⟩
    have cl4 : cs.length ≤ 4 := by rw [cl, List.length_take]; omega
    have hl0 : H l = none := by
      cases e : H l with
      | none => rfl
      | some u => have := s1 _ _ e; rw [hl] at this; cases this
    refine ⟨_, rfl, (by show 0 ≤ sizeLine; decide), fun b hb => ?_⟩
    have s4 := same_new hb (.lst ([] : List V))
    refine ⟨.list (cs.map .int), .list [], .lst (.inl (.inl (s4 _ _ h3l))) (dp_ints cs), .lst (.inl (.inl upd_same)) .nil, ints_shaped cs, ints_shaped [], !(cs.map PyData.int).isEmpty, congrArg (fun z => V.bl (!z)) eqv_lnil, ?_⟩
    cases cs with
    | nil =>
      refine iteF ⟨(by show 1 ≤ sizeLine; decide), fun c hc => ?_⟩
      have s5 := same_new hc (.lst [V.int 0])
      have hc0 : H c = none := by
        cases e : H c with
        | none => rfl
        | some u => have := s4 _ _ (s _ _ e); rw [hc] at this; cases this
      exact q c [0] _ hc0 upd_same (by decide) (by decide) (s.trans (s4.trans s5))
    | cons c0 cr =>
      exact iteT ⟨_, rfl, q l (c0 :: cr) _ hl0 (s4 _ _ h3l) (by simp) cl4 (s.trans s4)⟩
abbrev NW : List Str := ["_law_box_here", "_law_count", "_law_letters", "_law_begun", "_law_by", "_law_tail", "_law_at", "_law_found", "_law_k", "_law_name"]
theorem scWords : FnScope NW ["_law_box_here", "_law_count"] (defScope sWords) := ⟨rfl, rfl, rfl, by decide +kernel, rfl, by decide +kernel, by decide +kernel⟩
theorem ok_words {f fT : Addr} {fd fdT : FuncData} (F : Fun K "_law_words" "_law_words" sWords f fd) (FT : Fun K "_law_take" "_law_take" sTake fT fdT) (bT : Binds K fdT ["_law_box_here", "_law_top"] []) (mT : mg "_law_take" = some (.ref fT))
    (mRange : mg "range" = none) (mLen : mg "len" = none) : FnOk P w K mg base CX0 2 f fd ["_law_box_here", "_law_count"] spWords := by
  have GT : FnOk P w K mg base CX0 1 fT fdT ["_law_box_here", "_law_top"] spTake := ok_take FT
  refine F.ok scWords (fun vs H Q E h => ?_) (fun cdv A outer s H vs Q E hr h => ?_)
  · obtain ⟨b, j, rfl, _⟩ := h
    rfl
  obtain ⟨b, j, rfl, B, hj, q⟩ := h
  refine ⟨_, pss_cons (ps_asg (pe_tup (pa_cons pe_str (pa_cons (pe_call GT hr (by rfl) mT FT.kp bT .nil pass0 (pa_cons (pv 0) (pa_cons pe_int pa_nil))) (pa_cons (pe_ix ix_list (pe_lst (pa_cons pe_int (pa_cons pe_int (pa_cons pe_int (pa_cons pe_int pa_nil))))) (pe_call GT hr (by rfl) mT FT.kp bT .nil pass0 (pa_cons (pv 0) (pa_cons pe_int pa_nil))) (fun _ _ => rfl)) pa_nil))))
      (pg_tup (by rfl) (pgs_cons (pg_name (i := 2) scWords.nd rfl (Or.inr rfl)) (pgs_cons (pg_name (i := 3) scWords.nd rfl (Or.inr rfl)) (pgs_cons (pg_name (i := 4) scWords.nd rfl (Or.inr rfl)) pgs_nil)))))
    (pss_cons (ps_set (i := 5) scWords.nd rfl (Or.inr rfl) (pe_bm PySem.F.plainAttrs_str PySem.F.slot_str_join PySem.F.type_str_join mt_join pe_str (pa_cons
      (pe_lc (own := [("_law_k", 8)]) (g := gName 8) (tt := tYes) (te := teLetter) rfl scWords.nd (pi_range1 (by rfl) mRange (pa_cons (pe_ix ix_list (pe_lst (pa_cons pe_int (pa_cons pe_int (pa_cons pe_int (pa_cons pe_int (pa_cons pe_int pa_nil)))))) (pe_call GT hr (by rfl) mT FT.kp bT .nil pass0 (pa_cons (pv 0) (pa_cons pe_int pa_nil))) (fun _ _ => rfl)) pa_nil))
        (blkOk_by (N := NW) (sc := defScope sWords) (by decide +kernel)) (fun _ _ _ _ _ => pg_name (i := 8) scWords.nd rfl (Or.inl rfl)) (fun _ _ _ _ _ => pts_nil)
        (fun _ _ _ _ _ => pe_ix ix_str (pv 2) (pe_call GT hr (by rfl) mT FT.kp bT .nil pass0 (pa_cons (pv 0) (pa_cons pe_int pa_nil))) (fun _ _ => rfl))) pa_nil)))
    (pss_cons (ps_set (i := 6) scWords.nd rfl (Or.inr rfl) (pe_call GT hr (by rfl) mT FT.kp bT .nil pass0 (pa_cons (pv 0) (pa_cons (pe_op op_addI (pe_callB call_len_str (by rfl) mLen PySem.boot_len (pa_cons (pv 5) pa_nil)) pe_int) pa_nil))))
    (pss_cons (ps_setLc (i := 7) (own := [("_law_k", 8)]) (g := gName 8) (tt := tYes) (te := teName) rfl scWords.nd rfl rfl (by rfl) (pi_range1 (by rfl) mRange (pa_cons (pv 1) pa_nil))
        (blkOk_by (N := NW) (sc := defScope sWords) (by decide +kernel)) (fun _ _ _ _ _ => pg_name (i := 8) scWords.nd rfl (Or.inl rfl)) (fun _ _ _ _ _ => pts_nil)
        (fun _ _ _ _ _ => pe_op op_addS (pe_op op_addS (pe_slice sl_str (pv 5) po_none (po_some (pv 6))) (pe_ix ix_str (pv 2) (pe_op op_modP (pe_op op_addI (pv 3) (pe_op op_mulI (pv 4) (pv 8))) pe_int) (fun _ _ => rfl))) (pe_slice sl_str (pv 5) (po_some (pv 6)) po_none)))
    (pss_one (ps_ret (pe_lc (own := [("_law_name", 9)]) (g := gName 9) (tt := tYes) (te := teIff) rfl scWords.nd (pi_list (pv 7))
        (blkOk_by (N := NW) (sc := defScope sWords) (by decide +kernel)) (fun _ _ _ _ _ => pg_name (i := 9) scWords.nd rfl (Or.inl rfl)) (fun _ _ _ _ _ => pts_nil)
        (fun _ _ _ _ _ => pe_ifExp (pt_cmpR op_eq (pv 9) pe_str (nomark _)) pe_str (pv 9)))))))), ?_⟩
  have big : (10000 : Nat) ≤ sizeLine := by decide
  have l0 : ("" : Str).length = 0 := by decide +kernel
  have ll : letters.length = 26 := by decide +kernel
  refine ⟨_, rfl, b, _, j, rfl, B, by omega, by decide, by decide, fun r1 H1 a0 a1 B1 o1 => ?_⟩
  refine ⟨(by show 4 ≤ sizeLine; decide), fun d hd => ?_⟩
  have s2 := same_new hd (.lst [V.int 1, V.int 3, V.int 7, V.int 25])
  refine ⟨_, rfl, b, _, _, rfl, B1.same s2, by omega, by decide, by decide, fun r2 H3 b0 b1 B3 o3 => ?_⟩
  obtain ⟨y1, hb1⟩ := B1.some
  have db : d ≠ b := (ne_of_none hb1 hd).symm
  have hd3 := o3 _ _ upd_same db
  obtain ⟨by_, hat, hby⟩ : ∃ n : Int, atI [V.int 1, V.int 3, V.int 7, V.int 25] r2 = some (.int n) ∧ 1 ≤ n ∧ n ≤ 25 := by
    rcases (by omega : r2 = 0 ∨ r2 = 1 ∨ r2 = 2 ∨ r2 = 3) with e | e | e | e <;> subst e
    · exact ⟨_, at_of (j := 0) rfl rfl, by omega, by omega⟩
    · exact ⟨_, at_of (j := 1) rfl rfl, by omega, by omega⟩
    · exact ⟨_, at_of (j := 2) rfl rfl, by omega, by omega⟩
    · exact ⟨_, at_of (j := 3) rfl rfl, by omega, by omega⟩
  refine ⟨d, _, _, _, rfl, rfl, .inl (.inl hd3), hat, (by show 3 ≤ sizeLine; decide), fun t ht => ?_⟩
  have s4 := same_new ht (.tup [V.str letters, V.int r1, V.int by_])
  refine ⟨t, _, rfl, .inl (.inl upd_same), rfl, _, _, rfl, _, _, rfl, _, _, rfl, rfl, ?_⟩
  refine ⟨rfl, (by show 5 ≤ sizeLine; decide), fun e he => ?_⟩
  have s5 := same_new he (.lst [V.int 0, V.int 1, V.int 2, V.int 3, V.int 5])
  have B5 := (B3.same s4).same s5
  obtain ⟨y3, hb3⟩ := (B3.same s4).some
  have eb : e ≠ b := (ne_of_none hb3 he).symm
  refine ⟨_, rfl, b, _, _, rfl, B5, by omega, by decide, by decide, fun r3 H6 c0 c1 B6 o6 => ?_⟩
  have he6 := o6 _ _ upd_same eb
  obtain ⟨m3, hat3, hm3⟩ : ∃ n : Int, atI [V.int 0, V.int 1, V.int 2, V.int 3, V.int 5] r3 = some (.int n) ∧ 0 ≤ n ∧ n ≤ 5 := by
    rcases (by omega : r3 = 0 ∨ r3 = 1 ∨ r3 = 2 ∨ r3 = 3 ∨ r3 = 4) with e | e | e | e | e <;> subst e
    · exact ⟨_, at_of (j := 0) rfl rfl, by omega, by omega⟩
    · exact ⟨_, at_of (j := 1) rfl rfl, by omega, by omega⟩
    · exact ⟨_, at_of (j := 2) rfl rfl, by omega, by omega⟩
    · exact ⟨_, at_of (j := 3) rfl rfl, by omega, by omega⟩
    · exact ⟨_, at_of (j := 4) rfl rfl, by omega, by omega⟩
  have o06 : But b H H6 := o1.trans ((but_of s2).trans (o3.trans ((but_of s4).trans ((but_of s5).trans o6))))
  refine ⟨e, _, _, _, rfl, rfl, .inl (.inl he6), hat3, _, rfl, by omega, by omega, fun D hD => lc_range (lo := 0) (fun i H7 => ∃ ys : List Str, H7 D = some (.lst (ys.map V.str)) ∧ ys.length = i ∧ (∀ y ∈ ys, y.length = 1 ∧ Low y) ∧ BoxAt H7 b (j + 3 + i) ∧ But b H H7)
    ⟨[], upd_same, rfl, by simp, (B6.same (same_new hD _)).more (by omega), o06.trans (but_of (same_new hD _))⟩ ?_ ?_⟩
  · rintro i H7 hi ⟨ys, h7, yl, yo, B7, o7⟩
    have Db : D ≠ b := by
      obtain ⟨y6, hb6⟩ := B6.some
      exact (ne_of_none hb6 hD).symm
    refine ⟨rfl, ?_⟩
    unfold teLetter
    refine ⟨_, rfl, _, rfl, b, _, _, rfl, B7, by omega, by decide, by decide, fun r H8 d0 d1 B8 o8 => ?_⟩
    obtain ⟨c, hc, cl⟩ := letter_at ⟨d0, d1⟩
    refine ⟨letters, _, c, rfl, rfl, by omega, hc, ys.map V.str, o8 _ _ h7 Db, by rw [List.length_map]; omega, ys ++ [⟨#[c]⟩], ?_, by simp [yl], ?_, (B8.upd Db _).more (by omega), ?_⟩
    · rw [upd_same, List.map_append]; rfl
    · intro y hy
      rcases List.mem_append.mp hy with hy | hy
      · exact yo y hy
      · obtain rfl : y = ⟨#[c]⟩ := by simpa using hy
        exact ⟨rfl, low_one cl⟩
    · intro x o z nb
      have xD : x ≠ D := ne_of_none z (but_none o06 B6 hD)
      rw [upd_ne xD]
      exact o8 _ _ (o7 _ _ z nb) nb
  · rintro H7 ⟨ys, h7, yl, yo, B7, o7⟩
    obtain ⟨jl, jw⟩ := low_join ys yo
    have sum1 : ∀ zs : List Str, (∀ y ∈ zs, y.length = 1 ∧ Low y) → (zs.map (·.length)).sum = zs.length := by
      intro zs
      induction zs with
      | nil => intro _; rfl
      | cons z zs ih =>
        intro h
        rw [List.map_cons, List.sum_cons, ih fun y hy => h y (by simp [hy]), (h z (by simp)).1, List.length_cons]
        omega
    refine ⟨"", D, ys, rfl, rfl, .inl (.inl (.inl h7)), by rw [l0, sum1 ys yo]; omega, ?_⟩
    generalize Txt.join "" ys = tail at jl jw
    have tl5 : tail.length ≤ 5 := by omega
    refine ⟨_, rfl, _, rfl, tail, rfl, by omega, _, _, rfl, rfl, b, _, _, rfl, B7, by omega, by omega, by omega, fun r8 H8 e0 e1 B8 o8 => ?_⟩
    obtain ⟨k, rfl⟩ := Int.eq_ofNat_of_zero_le e0
    obtain ⟨p1, p2⟩ := cutS_parts (z := tail) (k := k) (by omega)
    have w1 := low_cut jw none (some (k : Int))
    have w2 := low_cut jw (some (k : Int)) none
    have o08 := o7.trans o8
    refine ⟨_, rfl, _, rfl, by decide, by decide, fun D2 hD2 => lc_range (lo := 0) (fun i H9 => ∃ ws : List Str, H9 D2 = some (.lst (ws.map V.str)) ∧ ws.length = i ∧ (∀ x ∈ ws, 1 ≤ x.length ∧ x.length ≤ 6 ∧ Low x) ∧ Same H8 H9) ⟨[], upd_same, rfl, by simp, same_new hD2 _⟩ ?_ ?_⟩
    · rintro i H9 hi ⟨ws, h9, wl, wo, s9⟩
      refine ⟨rfl, ?_⟩
      unfold teName
      have i4 : i < 4 := hi
      obtain ⟨c, hc, cl⟩ := letter_at (i := (r1 + by_ * (0 + (i : Int))) % 26) (by omega)
      have one : (⟨#[c]⟩ : Str).length = 1 := rfl
      refine ⟨_, rfl, _, rfl, (k : Int), rfl, tail, rfl, by omega, ?_⟩
      refine ⟨_, rfl, _, rfl, _, rfl, _, rfl, _, _, rfl, rfl, .inl ⟨by omega, by omega⟩, _, _, rfl, rfl, _, _, rfl, rfl, (by show (0 : Int) < 26; decide), letters, _, c, rfl, rfl, by omega, hc, ?_⟩
      refine ⟨_, _, rfl, rfl, by rw [p1, one]; omega, ?_⟩
      refine ⟨_, rfl, _, rfl, (k : Int), rfl, tail, rfl, by omega, ?_⟩
      refine ⟨_, _, rfl, rfl, by rw [slen, p1, p2, one]; omega, ?_⟩
      refine ⟨ws.map V.str, h9, by rw [List.length_map]; omega, ws ++ [cutS tail none (some (k : Int)) ++ ⟨#[c]⟩ ++ cutS tail (some (k : Int)) none], by rw [upd_same, List.map_append]; rfl, by simp [wl], ?_, ?_⟩
      · intro x hx
        rcases List.mem_append.mp hx with hx | hx
        · exact wo x hx
        · obtain rfl : x = _ := List.mem_singleton.mp hx
          refine ⟨?_, ?_, low_append (low_append w1 (low_one cl)) w2⟩
          · rw [slen, slen, p1, p2, one]; omega
          · rw [slen, slen, p1, p2, one]; omega
      · intro x o z
        rw [upd_ne (ne_of_none z hD2)]
        exact s9 _ _ z
    · rintro H9 ⟨ws, h9, wl, wo, s9⟩
      have wl4 : ws.length = 4 := wl
      refine ⟨_, rfl, D2, rfl, ⟨_, .inl (.inl h9)⟩, fun D3 hD3 => lc_list (K := K) (a := D2) (xs := ws.map V.str) (fun i H10 => H10 D3 = some (.lst (((ws.take i).map fun x : Str => if x = ("if" : Str) then ("iff" : Str) else x).map V.str)) ∧ Same H9 H10) ⟨upd_same, same_new hD3 _⟩ (fun i H10 _ h => .inl (.inl (h.2 _ _ h9))) ?_ ?_⟩
      · rintro i x H10 hi ⟨h10, s10⟩
        rw [List.getElem?_map] at hi
        obtain ⟨y, hy, rfl⟩ : ∃ y, ws[i]? = some y ∧ x = .str y := by
          cases hq : ws[i]? with
          | none => rw [hq] at hi; cases hi
          | some p => rw [hq] at hi; exact ⟨p, rfl, by simpa using hi.symm⟩
        have tk : ws.take (i + 1) = ws.take i ++ [y] := by rw [List.take_add_one, hy]; rfl
        refine ⟨rfl, ?_⟩
        unfold teIff
        have fin : ∀ z : Str, z = (if y = ("if" : Str) then ("iff" : Str) else y) → ∃ acc, H10 D3 = some (.lst acc) ∧ acc.length < sizeLine ∧ (upd H10 D3 (.lst (acc ++ [V.str z]))) D3 = some (.lst (((ws.take (i + 1)).map fun x : Str => if x = ("if" : Str) then ("iff" : Str) else x).map V.str)) ∧ Same H9 (upd H10 D3 (.lst (acc ++ [V.str z]))) := by
          rintro z rfl
          refine ⟨_, h10, ?_, ?_, ?_⟩
          · rw [List.length_map, List.length_map, List.length_take]; omega
          · rw [upd_same, tk, List.map_append, List.map_append]; rfl
          · intro x o z
            rw [upd_ne (ne_of_none z hD3)]
            exact s10 _ _ z
        by_cases hif : y = ("if" : Str)
        · exact ⟨_, rfl, rfl, true, congrArg V.bl (decide_eq_true (by rw [hif])), iteT (fin _ (if_pos hif).symm)⟩
        · exact ⟨_, rfl, rfl, false, congrArg V.bl (decide_eq_false fun z => hif (V.str.inj z)), iteF ⟨_, rfl, fin _ (if_neg hif).symm⟩⟩
      · rintro H10 ⟨h10, s10⟩
        rw [List.length_map, List.take_length] at h10
        have o09 : But b H H9 := o08.trans (but_of s9)
        refine q D3 _ H10 (but_none o09 (B8.same s9) hD3) h10 (by rw [List.length_map, wl4]) ?_ (((B8.same s9).same s10).more (by omega)) (o09.trans (but_of s10))
        intro x hx
        obtain ⟨y, hy, rfl⟩ := List.mem_map.mp hx
        by_cases hif : y = ("if" : Str)
        · rw [if_pos hif]
          exact ⟨by decide +kernel, by decide +kernel, by decide +kernel, by decide +kernel⟩
        · rw [if_neg hif]
          obtain ⟨g1, g2, g3⟩ := wo y hy
          exact ⟨g1, g2, g3, hif⟩
end
end Rp

set_option maxHeartbeats 8000000
/-! The law's counts and rules. -/
namespace Rp
open PySem PySem.Spec PyProof.Rows L2 TL StX
abbrev KVs := List (L2.Key × V)
def CtE (kv : L2.Key × V) : Prop := ∃ (x : Str) (m : Nat), kv.1 = .inr x ∧ kv.2 = .int (m : Nat) ∧ NameOk x ∧ 1 ≤ m ∧ m ≤ 2
structure CtOk (kvs : KVs) : Prop where
  each : ∀ kv ∈ kvs, CtE kv
  one : 1 ≤ kvs.length
  few : kvs.length ≤ 7
theorem putK_ct {kvs : KVs} (h : ∀ kv ∈ kvs, CtE kv) {k : L2.Key} {v : V} (e : CtE (k, v)) : ∀ kv ∈ putK kvs k v, CtE kv := by
  intro kv hkv
  unfold putK at hkv
  split at hkv
  · obtain ⟨kv0, h0, rfl⟩ := List.mem_map.mp hkv
    by_cases z : kv0.1 = k
    · rw [if_pos z, z]; exact e
    · rw [if_neg z]; exact h _ h0
  · rcases List.mem_append.mp hkv with hkv | hkv
    · exact h _ hkv
    · obtain rfl : kv = (k, v) := by simpa using hkv
      exact e
theorem putK_pos (kvs : KVs) (k : L2.Key) (v : V) : 1 ≤ (putK kvs k v).length ∧ kvs.length ≤ (putK kvs k v).length := by
  unfold putK
  split
  · rename_i h
    rw [List.length_map]
    refine ⟨?_, Nat.le_refl _⟩
    cases kvs with
    | nil => simp at h
    | cons a r => simp
  · rw [List.length_append]; simp
theorem putK_le (kvs : KVs) (k : L2.Key) (v : V) : (putK kvs k v).length ≤ kvs.length + 1 := by
  unfold putK
  split
  · rw [List.length_map]; omega
  · rw [List.length_append]; simp
theorem merge_ct : ∀ {more acc : KVs}, (∀ kv ∈ acc, CtE kv) → (∀ kv ∈ more, CtE kv) → (∀ kv ∈ mergeK acc more, CtE kv) ∧ (mergeK acc more).length ≤ acc.length + more.length ∧ acc.length ≤ (mergeK acc more).length ∧ (1 ≤ more.length → 1 ≤ (mergeK acc more).length)
  | [], acc, h, _ => ⟨h, Nat.le_refl _, Nat.le_refl _, fun z => by simp at z⟩
  | kv :: more, acc, h, h' => by
    have e : mergeK acc (kv :: more) = mergeK (putK acc kv.1 kv.2) more := rfl
    rw [e]
    obtain ⟨i1, i2, i3, i4⟩ := merge_ct (more := more) (acc := putK acc kv.1 kv.2) (putK_ct h (h' kv (by simp))) fun z hz => h' z (by simp [hz])
    have p1 := putK_le acc kv.1 kv.2
    have p2 := putK_pos acc kv.1 kv.2
    exact ⟨i1, by rw [List.length_cons]; omega, by omega, fun _ => by omega⟩
theorem ct_keys : ∀ {kvs : KVs}, (∀ kv ∈ kvs, CtE kv) → ∃ ks : List Str, kvs.map (·.1) = ks.map Sum.inr ∧ ks.length = kvs.length ∧ ∀ x ∈ ks, NameOk x ∧ ∃ m : Nat, valV kvs (.inr x) = some (.int (m : Nat)) ∧ 1 ≤ m ∧ m ≤ 2
  | [], _ => ⟨[], rfl, rfl, by simp⟩
  | kv :: r, h => by
    obtain ⟨ks, e1, e2, e3⟩ := ct_keys (kvs := r) fun z hz => h z (by simp [hz])
    obtain ⟨x, m, h1, h2, h3, h4, h5⟩ := h kv (by simp)
    refine ⟨x :: ks, by rw [List.map_cons, List.map_cons, e1, h1], by simp [e2], fun y hy => ?_⟩
    by_cases z : x = y
    · subst z
      exact ⟨h3, m, by rw [valV_pos h1, h2], h4, h5⟩
    · rcases List.mem_cons.mp hy with hy | hy
      · exact absurd hy.symm z
      · obtain ⟨g1, m', g2, g3⟩ := e3 y hy
        exact ⟨g1, m', by rw [valV_neg (by rw [h1]; exact fun w => z (Sum.inr.inj w))]; exact g2, g3⟩
def spCounts : Sp := fun vs H Q _ => ∃ (b p : Addr) (ws : List Str) (j : Nat), vs = [.ref b, .ref p] ∧ BoxAt H b j ∧ H p = some (.lst (ws.map V.str)) ∧ p ≠ b ∧ 1 ≤ ws.length ∧ ws.length ≤ 7 ∧ (∀ x ∈ ws, NameOk x) ∧ j + 7 ≤ 1000000 ∧
  ∀ (d : Addr) (kvs : KVs) (H' : Hp), H d = none → H' d = some (.dK kvs) → CtOk kvs → BoxAt H' b (j + 7) → But b H H' → Q (.ref d) H'
def rDiv2 : R2 := rI CDiv fun i j => .int (i / j)
theorem op_div2 {X : Cx} : OpR X (binaryOp .FloorDiv) rDiv2 := op_fdiv
def tePair : TE := tTup (tCons (tVar 2) (tCons (tOp rAddI (tC (.int 1)) (tOp rDiv2 (tCall spTake [] E0 (tCons (tVar 0) (tCons (tC (.int 3)) tNil))) (tC (.int 2)))) tNil))
def PairsAt (H : Hp) : List Addr → KVs → Prop
  | [], [] => True
  | p :: ps, kv :: kvs => H p = some (.tup [kV kv.1, kv.2]) ∧ PairsAt H ps kvs
  | _, _ => False
theorem PairsAt.mono {H H' : Hp} (e : ∀ a xs, H a = some (.tup xs) → H' a = some (.tup xs)) : ∀ {ps : List Addr} {kvs : KVs}, PairsAt H ps kvs → PairsAt H' ps kvs
  | [], [], _ => trivial
  | _ :: _, _ :: _, h => ⟨e _ _ h.1, PairsAt.mono e h.2⟩
theorem PairsAt.len {H : Hp} : ∀ {ps : List Addr} {kvs : KVs}, PairsAt H ps kvs → ps.length = kvs.length
  | [], [], _ => rfl
  | _ :: _, _ :: _, h => congrArg (· + 1) (PairsAt.len h.2)
theorem PairsAt.snoc {H : Hp} {p : Addr} {kv : L2.Key × V} (hp : H p = some (.tup [kV kv.1, kv.2])) : ∀ {ps : List Addr} {kvs : KVs}, PairsAt H ps kvs → PairsAt H (ps ++ [p]) (kvs ++ [kv])
  | [], [], _ => ⟨hp, trivial⟩
  | _ :: _, _ :: _, h => ⟨h.1, PairsAt.snoc hp h.2⟩
theorem PairsAt.paired {K : PySem.W.Frag} {H : Hp} : ∀ {ps : List Addr} {kvs : KVs}, PairsAt H ps kvs → Paired (fun p (kv : L2.Key × V) => SqT K H p [kV kv.1, kv.2]) ps kvs
  | [], [], _ => .nil
  | _ :: _, _ :: _, h => .cons (.inl (.inl h.1)) (PairsAt.paired h.2)
section
variable {P : Program} {w : World} {K : PySem.W.Frag} {mg : Str → Option Value} {base : Heap}
theorem scCounts : FnScope ["_law_box_here", "_law_words_here", "_law_word"] ["_law_box_here", "_law_words_here"] (defScope sCounts) := ⟨rfl, rfl, rfl, by decide +kernel, rfl, by decide +kernel, by decide +kernel⟩
theorem ok_counts {f fT : Addr} {fd fdT : FuncData} (F : Fun K "_law_counts" "_law_counts" sCounts f fd) (FT : Fun K "_law_take" "_law_take" sTake fT fdT) (bT : Binds K fdT ["_law_box_here", "_law_top"] []) (mT : mg "_law_take" = some (.ref fT))
    (mDict : mg "dict" = none) : FnOk P w K mg base CX0 2 f fd ["_law_box_here", "_law_words_here"] spCounts := by
  have GT : FnOk P w K mg base CX0 1 fT fdT ["_law_box_here", "_law_top"] spTake := ok_take FT
  refine F.ok scCounts (fun vs H Q E h => ?_) (fun cdv A outer s H vs Q E hr h => ?_)
  · obtain ⟨b, p, ws, j, rfl, _⟩ := h
    rfl
  obtain ⟨b, p, ws, j, rfl, B, hp, pb, w1, w7, wo, hj, q⟩ := h
  refine ⟨_, pss_one (ps_ret (pe_callTy (call_dictP rfl) (by rfl) mDict (by decide +kernel) (pa_cons (pe_lc (own := [("_law_word", 2)]) (g := gName 2) (tt := tYes) (te := tePair) rfl scCounts.nd (pi_list (pv 1))
        (blkOk_by (N := ["_law_box_here", "_law_words_here", "_law_word"]) (sc := defScope sCounts) (by decide +kernel)) (fun _ _ _ _ _ => pg_name (i := 2) scCounts.nd rfl (Or.inl rfl)) (fun _ _ _ _ _ => pts_nil)
        (fun _ _ _ _ _ => pe_tup (pa_cons (pv 2) (pa_cons (pe_op op_addI pe_int (pe_op op_div2 (pe_call GT hr (by rfl) mT FT.kp bT .nil pass0 (pa_cons (pv 0) (pa_cons pe_int pa_nil))) pe_int)) pa_nil)))) pa_nil))), ?_⟩
  have big : (10000 : Nat) ≤ sizeLine := by decide
  obtain ⟨y0, hb0⟩ := B.some
  refine ⟨_, rfl, p, rfl, ⟨_, .inl (.inl hp)⟩, fun D hD => lc_list (K := K) (a := p) (xs := ws.map V.str) (fun i H2 => ∃ (ps : List Addr) (kvs : KVs), H2 D = some (.lst (ps.map V.ref)) ∧ PairsAt H2 ps kvs ∧ kvs.length = i ∧ (∀ kv ∈ kvs, CtE kv) ∧ BoxAt H2 b (j + i) ∧ H2 p = some (.lst (ws.map V.str)) ∧ But b H H2)
    ⟨[], [], upd_same, trivial, rfl, by simp, (B.same (same_new hD _)).more (by omega), same_new hD _ _ _ hp, but_of (same_new hD _)⟩ (fun i H2 _ ⟨_, _, _, _, _, _, _, h, _⟩ => .inl (.inl h)) ?_ ?_⟩
  · rintro i x H2 hi ⟨ps, kvs, h2, A2, kl, ke, B2, hp2, o2⟩
    rw [List.getElem?_map] at hi
    obtain ⟨y, hy, rfl⟩ : ∃ y, ws[i]? = some y ∧ x = .str y := by
      cases hq : ws[i]? with
      | none => rw [hq] at hi; cases hi
      | some p => rw [hq] at hi; exact ⟨p, rfl, by simpa using hi.symm⟩
    have li : i < ws.length := (List.getElem?_eq_some_iff.mp hy).1
    have Db : D ≠ b := (ne_of_none hb0 hD).symm
    have Dp : D ≠ p := (ne_of_none hp hD).symm
    have pl := A2.len
    refine ⟨rfl, ?_⟩
    unfold tePair
    refine ⟨_, rfl, _, rfl, b, _, _, rfl, B2, by omega, by decide, by decide, fun r H3 r0 r3 B3 o3 => ?_⟩
    refine ⟨_, _, rfl, rfl, ⟨by decide, by decide⟩, _, _, rfl, rfl, (by show 2 ≤ sizeLine; decide), fun t ht => ?_⟩
    obtain ⟨m, hm⟩ := Int.eq_ofNat_of_zero_le (show 0 ≤ 1 + r / 2 by omega)
    rw [show ((fun i j => V.int (i + j)) (1 : Int) (r / 2) : V) = V.int ((m : Nat) : Int) from congrArg V.int hm]
    have s4 := same_new ht (.tup [V.str y, V.int (m : Nat)])
    have hD4 := s4 _ _ (o3 _ _ h2 Db)
    obtain ⟨y2, hb2⟩ := B2.some
    have keep : ∀ a zs, H2 a = some (.tup zs) → (upd (upd H3 t (.tup [V.str y, V.int (m : Nat)])) D (.lst (ps.map V.ref ++ [.ref t]))) a = some (.tup zs) := fun a zs z => by
      rw [upd_ne (ne_of z h2 (by intro e; cases e))]
      exact s4 _ _ (o3 _ _ z (ne_of z hb2 (by intro e; cases e)))
    have tD : t ≠ D := (ne_of_none (o3 _ _ h2 Db) ht).symm
    refine ⟨_, hD4, by rw [List.length_map]; omega, ps ++ [t], kvs ++ [(.inr y, .int (m : Nat))], by rw [upd_same, List.map_append]; rfl, PairsAt.snoc (by rw [upd_ne tD, upd_same]; rfl) (A2.mono keep), by simp [kl], ?_, ((B3.same s4).upd Db _).more (by omega), ?_, ?_⟩
    · intro kv hkv
      rcases List.mem_append.mp hkv with hkv | hkv
      · exact ke kv hkv
      · obtain rfl : kv = (.inr y, .int (m : Nat)) := by simpa using hkv
        exact ⟨y, m, rfl, rfl, wo y (List.mem_of_getElem? hy), by omega, by omega⟩
    · rw [upd_ne Dp.symm]
      exact s4 _ _ (o3 _ _ hp2 pb)
    · intro a o z nb
      rw [upd_ne (ne_of_none z hD)]
      exact s4 _ _ (o3 _ _ (o2 _ _ z nb) nb)
  · rintro H2 ⟨ps, kvs, h2, A2, kl, ke, B2, hp2, o2⟩
    rw [List.length_map] at kl B2
    obtain ⟨g1, g2, g3, g4⟩ := merge_ct (more := kvs) (acc := []) (by simp) ke
    refine ⟨D, ps, kvs, rfl, .inl (.inl h2), A2.paired, fun d hd => ?_⟩
    have s3 := same_new hd (.dK (mergeK [] kvs))
    have hd0 : H d = none := but_none o2 B2 hd
    exact q d _ _ hd0 upd_same ⟨g1, g4 (by omega), by simp at g2; omega⟩ ((B2.same s3).more (by omega)) (o2.trans (but_of s3))
end
end Rp

set_option maxHeartbeats 8000000
/-! The law's rules. -/
namespace Rp
open PySem PySem.Spec PyProof.Rows L2 TL StX
theorem AtAt.box {H H' : Hp} {b : Addr} {v : V} {a : At} {j : Nat} (T : AtAt H v a) (o : But b H H') (B : BoxAt H b j) : AtAt H' v a := by
  obtain ⟨ys, hb⟩ := B.some
  exact atAt_mono (fun a xs z => o _ _ z (ne_of z hb (by intro e; cases e))) T
theorem AtsAt.box {H H' : Hp} {b : Addr} {xs : List V} {as : List At} {j : Nat} (T : AtsAt H xs as) (o : But b H H') (B : BoxAt H b j) : AtsAt H' xs as := by
  obtain ⟨ys, hb⟩ := B.some
  exact T.mono fun a xs z => o _ _ z (ne_of z hb (by intro e; cases e))
def spLRule : Sp := fun vs H Q _ => ∃ (b d : Addr) (kvs : KVs) (j : Nat), vs = [.ref b, .ref d] ∧ BoxAt H b j ∧ H d = some (.dK kvs) ∧ CtOk kvs ∧ j + 20 ≤ 1000000 ∧
  ∀ (v : V) (r : Ru) (H' : Hp), RuAt H' v r → RuOk r → BoxAt H' b (j + 20) → But b H H' → Q v H'
def teArg : TE := tCall spTake [] E0 (tCons (tVar 0) (tCons (tVar 5) tNil))
section
variable {P : Program} {w : World} {K : PySem.W.Frag} {mg : Str → Option Value} {base : Heap}
abbrev NRu : List Str := ["_law_box_here", "_law_counts_here", "_law_words_here", "_law_word", "_law_head_here", "_law_count", "_law_body", "_law_turn", "_law_other", "_law_place"]
theorem scRule : FnScope NRu ["_law_box_here", "_law_counts_here"] (defScope sRule) := ⟨rfl, rfl, rfl, by decide +kernel, rfl, by decide +kernel, by decide +kernel⟩
theorem ok_rule {f fT fP fH : Addr} {fd fdT dP dH : FuncData} (F : Fun K "_law_rule" "_law_rule" sRule f fd) (FT : Fun K "_law_take" "_law_take" sTake fT fdT) (bT : Binds K fdT ["_law_box_here", "_law_top"] []) (mT : mg "_law_take" = some (.ref fT))
    (GP : FnOk P w K mg base CX0 2 fP dP ["_law_box_here", "_law_things"] spPick) (kP : PySem.W.keepIn K (.ref fP) = true) (bP : Binds K dP ["_law_box_here", "_law_things"] []) (mP : mg "_law_pick" = some (.ref fP))
    (GH : FnOk P w K mg base CX0 2 fH dH ["_law_box_here", "_law_word", "_law_many"] spLHead) (kH : PySem.W.keepIn K (.ref fH) = true) (bH : Binds K dH ["_law_box_here", "_law_word", "_law_many"] []) (mH : mg "_law_head" = some (.ref fH))
    (mSorted : mg "sorted" = none) (mRange : mg "range" = none) (mTuple : mg "tuple" = none) : FnOk P w K mg base CX0 3 f fd ["_law_box_here", "_law_counts_here"] spLRule := by
  have GT : FnOk P w K mg base CX0 1 fT fdT ["_law_box_here", "_law_top"] spTake := ok_take FT
  refine F.ok scRule (fun vs H Q E h => ?_) (fun cdv A outer s H vs Q E hr h => ?_)
  · obtain ⟨b, d, kvs, j, rfl, _⟩ := h
    rfl
  obtain ⟨b, d, kvs, j, rfl, B, hd, ct, hj, q⟩ := h
  have r1 : Room 1 _ := hr.mono (by decide)
  refine ⟨_, pss_cons (ps_set (i := 2) scRule.nd rfl (Or.inl rfl) (pe_callB (call_sortedD rfl) (by rfl) mSorted (by decide +kernel) (pa_cons (pv 1) pa_nil)))
    (pss_cons (ps_set (i := 3) scRule.nd rfl (Or.inl rfl) (pe_call GP hr rfl mP kP bP .nil pass0 (pa_cons (pv 0) (pa_cons (pv 2) pa_nil))))
    (pss_cons (ps_asg (pe_call GH hr rfl mH kH bH .nil pass0 (pa_cons (pv 0) (pa_cons (pv 3) (pa_cons (pe_dget (hu_of hr) (pv 1) (pv 3) (fun _ _ => rfl)) pa_nil)))) (pg_tup (by rfl) (pgs_cons (pg_name (i := 4) scRule.nd rfl (Or.inl rfl)) (pgs_cons (pg_name (i := 5) scRule.nd rfl (Or.inr rfl)) pgs_nil))))
    (pss_cons (ps_set (i := 6) scRule.nd rfl (Or.inl rfl) (pe_lst pa_nil))
    (pss_cons (ps_for PassesOwn.never rfl (pi_range1 (by rfl) mRange (pa_cons (pe_ifExp (pt_cmpR op_gt (pv 5) pe_int (nomark _)) (pe_call GT r1 rfl mT FT.kp bT .nil pass0 (pa_cons (pv 0) (pa_cons pe_int pa_nil))) pe_int) pa_nil)) (pg_name (i := 7) scRule.nd rfl (Or.inl rfl))
      (pss_cons (ps_set (i := 8) scRule.nd rfl (Or.inl rfl) (pe_call GP hr rfl mP kP bP .nil pass0 (pa_cons (pv 0) (pa_cons (pv 2) pa_nil))))
      (pss_one (ps_expr (pe_bm PySem.F.plainAttrs_list PySem.F.slot_list_append PySem.F.type_list_append mt_append (pv 6) (pa_cons (pe_op op_catT (pe_tup (pa_cons (pv 8) pa_nil)) (pe_callTy call_tuple_of (by rfl) mTuple (by decide +kernel) (pa_cons
        (pe_lc (own := [("_law_place", 9)]) (g := gName 9) (tt := tYes) (te := teArg) rfl scRule.nd (pi_range1 (by rfl) mRange (pa_cons (pe_dget (hu_of hr) (pv 1) (pv 8) (fun _ _ => rfl)) pa_nil)) (blkOk_by (N := NRu) (sc := defScope sRule) (by decide +kernel))
          (fun _ _ _ _ _ => pg_name (i := 9) scRule.nd rfl (Or.inl rfl)) (fun _ _ _ _ _ => pts_nil) (fun _ _ _ _ _ => pe_call GT r1 (by rfl) mT FT.kp bT .nil pass0 (pa_cons (pv 0) (pa_cons (pv 5) pa_nil)))) pa_nil))) pa_nil))))))
    (pss_one (ps_ret (pe_tup (pa_cons (pv 4) (pa_cons (pe_callTy call_tuple_of (by rfl) mTuple (by decide +kernel) (pa_cons (pv 6) pa_nil)) pa_nil))))))))), ?_⟩
  have big : (10000 : Nat) ≤ sizeLine := by decide
  obtain ⟨ks, ke, kl, ko⟩ := ct_keys ct.each
  have c1 := ct.one
  have c7 := ct.few
  obtain ⟨yb, hb⟩ := B.some
  have db : d ≠ b := ne_of hd hb (by intro z; cases z)
  refine ⟨_, rfl, d, kvs, ks, rfl, .inl hd, ke, by omega, fun ys p perm srt hp => ?_⟩
  have s1 := same_new hp (.lst (ys.map V.str))
  have yl : ys.length = ks.length := perm.length_eq
  have pb : p ≠ b := (ne_of_none hb hp).symm
  have pd : p ≠ d := (ne_of_none hd hp).symm
  refine ⟨_, rfl, _, rfl, b, p, ys.map V.str, _, rfl, B.same s1, by omega, upd_same, pb, by rw [List.length_map]; omega, by rw [List.length_map]; omega, fun v H2 hv B2 o2 => ?_⟩
  obtain ⟨x, hx, rfl⟩ := List.mem_map.mp hv
  obtain ⟨xo, m, hm, m1, m2⟩ := ko x (perm.mem_iff.mp hx)
  have hd2 := o2 _ _ (s1 _ _ hd) db
  have hp2 := o2 _ _ (upd_same : (upd H p (.lst (ys.map V.str))) p = _) pb
  refine ⟨_, rfl, _, rfl, _, rfl, _, rfl, d, _, rfl, by rw [← hm]; exact DGet.k (k := Sum.inr x) hd2, b, _, m, x, rfl, B2, by omega, xo, m1, m2, fun t vh a H3 ht3 A3 an al ao B3 o3 => ?_⟩
  refine ⟨t, _, rfl, .inl (.inl ht3), rfl, _, _, rfl, _, _, rfl, rfl, ?_⟩
  refine ⟨(by show 0 ≤ sizeLine; decide), fun l hl => ?_⟩
  have s4 := same_new hl (.lst ([] : List V))
  have lb : l ≠ b := by
    obtain ⟨y3, hb3⟩ := B3.some
    exact (ne_of_none hb3 hl).symm
  have o03 : But b H H3 := (but_of s1).trans (o2.trans o3)
  have hl0 : H l = none := but_none o03 B3 hl
  have hd4 := s4 _ _ (o3 _ _ hd2 db)
  have hp4 := s4 _ _ (o3 _ _ hp2 pb)
  have A4 := atAt_same A3 s4
  have B4 := B3.same s4
  have o04 : But b H _ := o03.trans (but_of s4)
  have hl4 : (upd H3 l (.lst ([] : List V))) l = some (.lst []) := upd_same
  have dl : d ≠ l := ne_of_none (o03 _ _ hd db) hl
  have pl : p ≠ l := ne_of_none (o3 _ _ hp2 pb) hl
  generalize upd H3 l (.lst ([] : List V)) = H4 at hd4 hp4 A4 B4 o04 hl4 ⊢
  have rng := ao.rng
  have c4 : (hvars a.ts).length ≤ 4 := by
    have each : ∀ ts : List Tm, (∀ u ∈ ts, u.plain) → (hvars ts).length ≤ 2 * ts.length := by
      intro ts
      induction ts with
      | nil => intro _; simp [hvars]
      | cons u ts ih =>
        intro h
        have h1 := plain_few (h u (by simp))
        have h2 := ih fun v hv => h v (by simp [hv])
        have e : hvars (u :: ts) = u.nums ++ hvars ts := by simp [hvars]
        rw [e, List.length_append, List.length_cons]
        omega
    have := each a.ts ao.pl
    have := ao.two
    omega
  have fin : ∀ (xs : List V) (as : List At) (H5 : Hp), H5 l = some (.lst xs) → AtsAt H5 xs as → as.length ≤ 3 → (∀ a' ∈ as, AtOk 50 a' ∧ ∀ u ∈ a'.ts, ∃ i ∈ hvars a.ts, u = Tm.v i) → BoxAt H5 b (j + 20) → (∀ q o, H4 q = some o → q ≠ b → q ≠ l → H5 q = some o) →
      ∀ g, H5 g = none → ∀ c, (upd H5 g (.tup xs)) c = none → Q (.ref c) (upd (upd H5 g (.tup xs)) c (.tup [vh, .ref g])) := by
    intro xs as H5 h5l A5 a3 ak B5 o5 g hg c hc
    have s6 := same_new hg (.tup xs)
    have s7 := same_new hc (.tup [vh, V.ref g])
    have A5h : AtAt H5 vh a := by
      obtain ⟨y4, hb4⟩ := B4.some
      exact atAt_mono (fun q zs z => o5 _ _ z (ne_of z hb4 (by intro e; cases e)) (ne_of z hl4 (by intro e; cases e))) A4
    refine q (.ref c) ⟨a, as⟩ _ ⟨c, g, vh, xs, rfl, upd_same, atAt_same A5h (s6.trans s7), s7 _ _ upd_same, (A5.same s6).same s7⟩ ⟨ao, a3, fun a' h => (ak a' h).1, fun a' h => (ak a' h).2⟩ ((B5.same s6).same s7) ?_
    intro r o z nb
    refine s7 _ _ (s6 _ _ (o5 _ _ (o04 _ _ z nb) nb ?_))
    intro e
    subst e
    rw [hl0] at z; cases z
  by_cases hc : 0 < (hvars a.ts).length
  · refine ⟨_, rfl, _, _, rfl, rfl, true, congrArg V.bl (decide_eq_true (by omega)), iteT ?_⟩
    refine ⟨_, rfl, b, _, _, rfl, B4, by omega, by decide, by decide, fun n H5 n0 n4 B5 o5 => ?_⟩
    obtain ⟨k, rfl⟩ := Int.eq_ofNat_of_zero_le n0
    have k3 : k ≤ 3 := by omega
    refine ⟨_, rfl, by omega, by omega, for_range (lo := 0) (n := ((k : Nat) : Int).toNat) (fun i σ H6 => ∃ (xs : List V) (as : List At) (x7 x8 : Option V), σ = [some (.ref b), some (.ref d), some (.ref p), some (.str x), some vh, some (.int ((hvars a.ts).length : Nat)), some (.ref l), x7, x8, none] ∧
        H6 l = some (.lst xs) ∧ AtsAt H6 xs as ∧ as.length = i ∧ (∀ a' ∈ as, AtOk 50 a' ∧ ∀ u ∈ a'.ts, ∃ i ∈ hvars a.ts, u = Tm.v i) ∧ BoxAt H6 b (j + 4 + 3 * i) ∧ (∀ q o, H4 q = some o → q ≠ b → q ≠ l → H6 q = some o))
      ⟨[], [], none, none, rfl, o5 _ _ hl4 lb, trivial, rfl, by simp, B5.more (by omega), fun q o z nb _ => o5 _ _ z nb⟩ ?_ ?_⟩
    · rintro i σ H6 hi ⟨xs, as, x7, x8, rfl, h6l, A6, al6, ak, B6, o6⟩
      have i3 : i < 3 := by omega
      have hp6 := o6 _ _ hp4 pb pl
      have hd6 := o6 _ _ hd4 db dl
      have xl := A6.len
      refine ⟨_, rfl, _, rfl, b, p, ys.map V.str, _, rfl, B6, by omega, hp6, pb, by rw [List.length_map]; omega, by rw [List.length_map]; omega, fun v2 H7 hv2 B7 o7 => ?_⟩
      obtain ⟨x2, hx2, rfl⟩ := List.mem_map.mp hv2
      obtain ⟨xo2, m', hm', m1', m2'⟩ := ko x2 (perm.mem_iff.mp hx2)
      have h7l := o7 _ _ h6l lb
      have hd7 := o7 _ _ hd6 db
      refine ⟨_, rfl, .inl ⟨rfl, _, .inl (.inl h7l)⟩, _, rfl, (by show 1 ≤ sizeLine; decide), fun t1 ht1 => ?_⟩
      have s8 := same_new ht1 (.tup [V.str x2])
      have hd8 := s8 _ _ hd7
      obtain ⟨y7, hb7⟩ := (B7.same s8).some
      refine ⟨_, rfl, _, rfl, d, _, rfl, by rw [← hm']; exact DGet.k (k := Sum.inr x2) hd8, _, rfl, by omega, by omega, fun D hD => lc_range (lo := 0) (fun r H9 => ∃ is : List Int, H9 D = some (.lst (is.map V.int)) ∧ is.length = r ∧ (∀ i ∈ is, i ∈ hvars a.ts) ∧ BoxAt H9 b (j + 4 + 3 * i + 1 + r) ∧ But b (upd H7 t1 (.tup [V.str x2])) H9)
        ⟨[], upd_same, rfl, by simp, ((B7.same s8).same (same_new hD _)).more (by omega), but_of (same_new hD _)⟩ ?_ ?_⟩
      · rintro r H9 hr' ⟨is, h9, il, ik, B9, o9⟩
        have Db : D ≠ b := (ne_of_none hb7 hD).symm
        refine ⟨rfl, ?_⟩
        unfold teArg
        refine ⟨_, rfl, _, rfl, b, _, _, rfl, B9, by omega, by omega, by omega, fun z H10 z0 z1 B10 o10 => ?_⟩
        refine ⟨is.map V.int, o10 _ _ h9 Db, by rw [List.length_map]; omega, is ++ [z], by rw [upd_same, List.map_append]; rfl, by simp [il], ?_, (B10.upd Db _).more (by omega), ?_⟩
        · intro y hy
          rcases List.mem_append.mp hy with hy | hy
          · exact ik y hy
          · obtain rfl : y = z := by simpa using hy
            rw [rng]
            exact List.mem_map.mpr ⟨y.toNat, List.mem_range.mpr (by omega), by show ((y.toNat : Nat) : Int) = y; omega⟩
        · intro y o w nb
          rw [upd_ne (ne_of_none w hD)]
          exact o10 _ _ (o9 _ _ w nb) nb
      · rintro H9 ⟨is, h9, il, ik, B9, o9⟩
        have il2 : is.length = m' := by rw [il]; omega
        refine ⟨D, is.map V.int, rfl, .inl ⟨.inl (.inl h9), fun g hg => ?_⟩⟩
        have s10 := same_new hg (.tup (is.map V.int))
        obtain ⟨y9, hb9⟩ := B9.some
        have t1b : t1 ≠ b := by
          obtain ⟨y7, hb7'⟩ := B7.some
          exact (ne_of_none hb7' ht1).symm
        have ht9 := o9 _ _ (upd_same : (upd H7 t1 (.tup [V.str x2])) t1 = _) t1b
        refine ⟨t1, g, [V.str x2], is.map V.int, rfl, rfl, .inl (.inl (s10 _ _ ht9)), .inl (.inl upd_same), by simp, by simp; omega, fun e => ?_, fun _ t2 ht2 => ?_⟩
        · rw [List.map_eq_nil_iff] at e
          rw [e] at il2; simp at il2; omega
        have s11 := same_new ht2 (.tup ([V.str x2] ++ is.map V.int))
        have keep : ∀ q o, H7 q = some o → q ≠ b → (upd (upd H9 g (.tup (is.map V.int))) t2 (.tup ([V.str x2] ++ is.map V.int))) q = some o := fun q o z nb => s11 _ _ (s10 _ _ (o9 _ _ (s8 _ _ z) nb))
        have B11 : BoxAt (upd (upd H9 g (.tup (is.map V.int))) t2 (.tup ([V.str x2] ++ is.map V.int))) b (j + 4 + 3 * i + 1 + m') := by
          exact ((B9.same s10).same s11).more (by omega)
        have h11l := keep _ _ h7l lb
        have t2h : (upd (upd H9 g (.tup (is.map V.int))) t2 (.tup ([V.str x2] ++ is.map V.int))) t2 = some (.tup ([V.str x2] ++ is.map V.int)) := upd_same
        generalize upd (upd H9 g (.tup (is.map V.int))) t2 (.tup ([V.str x2] ++ is.map V.int)) = H11 at keep B11 h11l t2h ⊢
        refine ⟨l, _, _, rfl, rfl, h11l, by omega, ?_⟩
        have t2l : t2 ≠ l := ne_of t2h h11l (by intro z; cases z)
        obtain ⟨y6, hb6⟩ := B6.some
        have tup : ∀ q zs, H6 q = some (.tup zs) → (upd H11 l (.lst (xs ++ [.ref t2]))) q = some (.tup zs) := fun q zs z => by
          rw [upd_ne (ne_of z h6l (by intro e; cases e))]
          have nb := ne_of z hb6 (by intro e; cases e)
          exact keep _ _ (o7 _ _ z nb) nb
        have AtN : AtAt (upd H11 l (.lst (xs ++ [.ref t2]))) (.ref t2) ⟨x2, is.map Tm.v⟩ := by
          refine ⟨t2, is.map V.int, rfl, by rw [upd_ne t2l]; exact t2h, ?_⟩
          have each : ∀ zs : List Int, AllAt (upd H11 l (.lst (xs ++ [.ref t2]))) (zs.map V.int) (zs.map Tm.v) := by
            intro zs
            induction zs with
            | nil => trivial
            | cons z zs ih => exact ⟨.v z, ih⟩
          exact each is
        refine ⟨xs ++ [.ref t2], as ++ [⟨x2, is.map Tm.v⟩], _, _, rfl, upd_same, (A6.mono tup).append ⟨AtN, trivial⟩, by simp [al6], ?_, (B11.upd lb _).more (by omega), ?_⟩
        · intro a' ha'
          rcases List.mem_append.mp ha' with ha' | ha'
          · exact ak a' ha'
          · obtain rfl : a' = ⟨x2, is.map Tm.v⟩ := by simpa using ha'
            refine ⟨{ nm := xo2, one := by rw [List.length_map]; omega, two := by rw [List.length_map]; omega, sm := fun u hu => ?_ }, fun u hu => ?_⟩
            · obtain ⟨y, hy, rfl⟩ := List.mem_map.mp hu
              have hy2 := ik y hy
              rw [rng] at hy2
              obtain ⟨w, hw, rfl⟩ := List.mem_map.mp hy2
              rw [List.mem_range] at hw
              refine ⟨fun n hn => ?_, by show 1 ≤ 50; omega⟩
              have hn : n = ((w : Nat) : Int) := by simpa [Tm.nums] using hn
              omega
            · obtain ⟨y, hy, rfl⟩ := List.mem_map.mp hu
              exact ⟨y, ik y hy, rfl⟩
        · intro q o z nb nl
          rw [upd_ne nl]
          exact keep _ _ (o7 _ _ (o6 _ _ z nb nl) nb) nb
    · rintro σ H6 ⟨xs, as, x7, x8, rfl, h6l, A6, al6, ak, B6, o6⟩
      refine ⟨_, rfl, _, rfl, l, _, rfl, .inl ⟨.inl (.inl h6l), fun g hg => ⟨(by show 2 ≤ sizeLine; decide), fun c hc => ?_⟩⟩⟩
      exact fin xs as H6 h6l A6 (by omega) ak (B6.more (by omega)) o6 g hg c hc
  · refine ⟨_, rfl, _, _, rfl, rfl, false, congrArg V.bl (decide_eq_false (by omega)), iteF ?_⟩
    refine ⟨_, rfl, by decide, by decide, for_range (lo := 0) (n := (0 : Int).toNat) (fun i σ H6 => σ = [some (.ref b), some (.ref d), some (.ref p), some (.str x), some vh, some (.int ((hvars a.ts).length : Nat)), some (.ref l), none, none, none] ∧ H6 = H4) ⟨rfl, rfl⟩ (fun i σ H6 hi _ => absurd hi (by show ¬ i < 0; omega)) ?_⟩
    rintro σ H6 ⟨rfl, rfl⟩
    refine ⟨_, rfl, _, rfl, l, _, rfl, .inl ⟨.inl (.inl hl4), fun g hg => ⟨(by show 2 ≤ sizeLine; decide), fun c hc => ?_⟩⟩⟩
    exact fin [] [] _ hl4 trivial (by decide) (by simp) (B4.more (by omega)) (fun _ _ z _ _ => z) g hg c hc
end
end Rp

set_option maxHeartbeats 8000000
/-! Unlike things have unlike texts; what is alike. -/
namespace Rp
open PySem PySem.Spec PyProof.Rows L2 TL StX
theorem xn_inj {n m : Int} (h : 0 ≤ n ∧ n ≤ 99) (h' : 0 ≤ m ∧ m ≤ 99) (e : xn n = xn m) : n = m := by
  obtain ⟨_, _, a, _, b, _⟩ := xn_facts h
  obtain ⟨_, _, a', _, b', _⟩ := xn_facts h'
  rw [e, a'] at a
  rw [← a, b'] at b
  exact (Option.some.inj b).symm
theorem sgn_inj : ∀ {a b : Tm} {r r' : List Str}, a.small → b.small → a.sgn ++ r = b.sgn ++ r' → a = b ∧ r = r'
  | a, b, r, r', ha, hb, e => by
    have n0s : ("0" : Str) ≠ "s" := by decide +kernel
    have n0f : ("0" : Str) ≠ "f" := by decide +kernel
    have nsf : ("s" : Str) ≠ "f" := by decide +kernel
    cases a with
    | v n =>
      have hn := ha n (by simp [Tm.nums])
      obtain ⟨_, _, _, _, _, g0, gs, gf⟩ := xn_facts hn
      cases b with
      | v m =>
        have hm := hb m (by simp [Tm.nums])
        have e : xn n :: r = xn m :: r' := e
        injection e with e1 e2
        rw [xn_inj hn hm e1]
        exact ⟨rfl, e2⟩
      | z => have e : xn n :: r = ("0" : Str) :: r' := e; injection e with e1; exact absurd e1 g0
      | s t => have e : xn n :: r = ("s" : Str) :: (t.sgn ++ r') := e; injection e with e1; exact absurd e1 gs
      | f l q => have e : xn n :: r = ("f" : Str) :: (l.sgn ++ q.sgn ++ r') := e; injection e with e1; exact absurd e1 gf
    | z =>
      cases b with
      | v m =>
        obtain ⟨_, _, _, _, _, g0, gs, gf⟩ := xn_facts (hb m (by simp [Tm.nums]))
        have e : ("0" : Str) :: r = xn m :: r' := e
        injection e with e1; exact absurd e1.symm g0
      | z => have e : ("0" : Str) :: r = ("0" : Str) :: r' := e; injection e with _ e2; exact ⟨rfl, e2⟩
      | s t => have e : ("0" : Str) :: r = ("s" : Str) :: (t.sgn ++ r') := e; injection e with e1; exact absurd e1 n0s
      | f l q => have e : ("0" : Str) :: r = ("f" : Str) :: (l.sgn ++ q.sgn ++ r') := e; injection e with e1; exact absurd e1 n0f
    | s t =>
      cases b with
      | v m =>
        obtain ⟨_, _, _, _, _, g0, gs, gf⟩ := xn_facts (hb m (by simp [Tm.nums]))
        have e : ("s" : Str) :: (t.sgn ++ r) = xn m :: r' := e
        injection e with e1; exact absurd e1.symm gs
      | z => have e : ("s" : Str) :: (t.sgn ++ r) = ("0" : Str) :: r' := e; injection e with e1; exact absurd e1.symm n0s
      | s t' =>
        have e : ("s" : Str) :: (t.sgn ++ r) = ("s" : Str) :: (t'.sgn ++ r') := e
        injection e with _ e2
        obtain ⟨h1, h2⟩ := sgn_inj (a := t) (b := t') ha hb e2
        exact ⟨by rw [h1], h2⟩
      | f l q => have e : ("s" : Str) :: (t.sgn ++ r) = ("f" : Str) :: (l.sgn ++ q.sgn ++ r') := e; injection e with e1; exact absurd e1 nsf
    | f l q =>
      cases b with
      | v m =>
        obtain ⟨_, _, _, _, _, g0, gs, gf⟩ := xn_facts (hb m (by simp [Tm.nums]))
        have e : ("f" : Str) :: (l.sgn ++ q.sgn ++ r) = xn m :: r' := e
        injection e with e1; exact absurd e1.symm gf
      | z => have e : ("f" : Str) :: (l.sgn ++ q.sgn ++ r) = ("0" : Str) :: r' := e; injection e with e1; exact absurd e1.symm n0f
      | s t => have e : ("f" : Str) :: (l.sgn ++ q.sgn ++ r) = ("s" : Str) :: (t.sgn ++ r') := e; injection e with e1; exact absurd e1.symm nsf
      | f l' q' =>
        have e : ("f" : Str) :: (l.sgn ++ q.sgn ++ r) = ("f" : Str) :: (l'.sgn ++ q'.sgn ++ r') := e
        injection e with _ e2
        rw [List.append_assoc, List.append_assoc] at e2
        obtain ⟨h1, h2⟩ := sgn_inj (a := l) (b := l') (fun n hn => ha n (by simp [Tm.nums, hn])) (fun n hn => hb n (by simp [Tm.nums, hn])) e2
        obtain ⟨h3, h4⟩ := sgn_inj (a := q) (b := q') (fun n hn => ha n (by simp [Tm.nums, hn])) (fun n hn => hb n (by simp [Tm.nums, hn])) h2
        exact ⟨by rw [h1, h3], h4⟩
theorem txt_inj {a b : Tm} (ha : a.small) (hb : b.small) (e : a.txt = b.txt) : a = b := by
  have h1 := words_txt a ha
  have h2 := words_txt b hb
  rw [e, h2] at h1
  exact (sgn_inj (r := []) (r' := []) ha hb (by rw [h1])).1
theorem eqv_tm : ∀ {a b : Tm}, PyData.eqv (tmD a) (tmD b) = true ↔ a = b := by
  have n0s : ("0" : Str) ≠ "s" := by decide +kernel
  have n0f : ("0" : Str) ≠ "f" := by decide +kernel
  have nsf : ("s" : Str) ≠ "f" := by decide +kernel
  intro a
  induction a with
  | v n => intro b; cases b <;> simp [tmD, PyData.eqv]
  | z => intro b; cases b <;> simp [tmD, PyData.eqv, PyData.eqvAll]
  | s t ih =>
    intro b
    cases b with
    | s t' => simp only [tmD]; rw [eqv_tup, eqvAll_cons, eqvAll_cons, eqvAll_nil]; simp [PyData.eqv, ih]
    | _ => simp [tmD, PyData.eqv, PyData.eqvAll]
  | f l r ih1 ih2 =>
    intro b
    cases b with
    | f l' r' => simp only [tmD]; rw [eqv_tup, eqvAll_cons, eqvAll_cons, eqvAll_cons, eqvAll_nil]; simp [PyData.eqv, ih1, ih2]
    | _ => simp [tmD, PyData.eqv, PyData.eqvAll]
theorem alike_plain {H : Hp} {n : Nat} {x : V} (p : Plain x) : Alike H n x x := by
  cases n with
  | zero => unfold Alike; exact ⟨p, rfl⟩
  | succ n => unfold Alike; exact .inl ⟨p, rfl⟩
theorem alike_tm {H : Hp} : ∀ {t : Tm} {n : Nat} {x y : V}, TmAt H x t → TmAt H y t → t.deep < n → Alike H n x y
  | .v m, n, _, _, .v _, .v _, _ => alike_plain trivial
  | .z, n + 1, _, _, .z h, .z h', _ => by
    unfold Alike
    refine .inr ⟨_, _, _, _, rfl, rfl, .inr ⟨h, h'⟩, rfl, by simp, fun i u v h1 h2 => ?_⟩
    obtain rfl : u = v := Option.some.inj (h1.symm.trans h2)
    match i with
    | 0 => simp at h1; subst h1; exact alike_plain trivial
    | i + 1 => simp at h1
  | .s t, n + 1, _, _, .s h q, .s h' q', hd => by
    unfold Alike
    refine .inr ⟨_, _, _, _, rfl, rfl, .inr ⟨h, h'⟩, rfl, by simp, fun i u v h1 h2 => ?_⟩
    match i with
    | 0 => simp at h1 h2; subst h1 h2; exact alike_plain trivial
    | 1 => simp at h1 h2; subst h1 h2; exact alike_tm q q' (by simp only [Tm.deep] at hd; omega)
    | i + 2 => simp at h1
  | .f l r, n + 1, _, _, .f h q1 q2, .f h' q1' q2', hd => by
    unfold Alike
    simp only [Tm.deep] at hd
    refine .inr ⟨_, _, _, _, rfl, rfl, .inr ⟨h, h'⟩, rfl, by simp, fun i u v h1 h2 => ?_⟩
    match i with
    | 0 => simp at h1 h2; subst h1 h2; exact alike_plain trivial
    | 1 => simp at h1 h2; subst h1 h2; exact alike_tm q1 q1' (by omega)
    | 2 => simp at h1 h2; subst h1 h2; exact alike_tm q2 q2' (by omega)
    | i + 3 => simp at h1
theorem alike_all {H : Hp} {n : Nat} : ∀ {ts : List Tm} {xs ys : List V}, AllAt H xs ts → AllAt H ys ts → (∀ t ∈ ts, t.deep < n) → ∀ (i : Nat) (u v : V), xs[i]? = some u → ys[i]? = some v → Alike H n u v
  | [], [], [], _, _, _, i, u, v, h, _ => by simp at h
  | t :: ts, x :: xs, y :: ys, A, B, hd, 0, u, v, h, h' => by
    obtain rfl : x = u := by simpa using h
    obtain rfl : y = v := by simpa using h'
    exact alike_tm A.1 B.1 (hd t (by simp))
  | t :: ts, x :: xs, y :: ys, A, B, hd, i + 1, u, v, h, h' => alike_all A.2 B.2 (fun s hs => hd s (by simp [hs])) i u v (by simpa using h) (by simpa using h')
theorem alike_at {H : Hp} {a : At} (ok : AtOk 50 a) {x y : V} (hx : AtAt H x a) (hy : AtAt H y a) : Alike H 52 x y := by
  obtain ⟨p, xs, rfl, hp, A⟩ := hx
  obtain ⟨q, ys, rfl, hq, B⟩ := hy
  have lx := A.len
  have ly := B.len
  have two := ok.two
  unfold Alike
  refine .inr ⟨p, q, _, _, rfl, rfl, .inr ⟨hp, hq⟩, by simp [lx, ly], by simp; omega, fun i u v h1 h2 => ?_⟩
  match i with
  | 0 =>
    simp at h1 h2; subst h1 h2; exact alike_plain trivial
  | i + 1 => exact alike_all A B (fun t ht => by have := Tm.deep_lt t; have := (ok.sm t ht).2; show t.deep < 51; omega) i u v (by simpa using h1) (by simpa using h2)
theorem alike_ats {H : Hp} : ∀ {as : List At} {xs ys : List V}, (∀ a ∈ as, AtOk 50 a) → AtsAt H xs as → AtsAt H ys as → ∀ (i : Nat) (u v : V), xs[i]? = some u → ys[i]? = some v → Alike H 52 u v
  | [], [], [], _, _, _, i, u, v, h, _ => by simp at h
  | a :: as, x :: xs, y :: ys, ok, A, B, 0, u, v, h, h' => by
    obtain rfl : x = u := by simpa using h
    obtain rfl : y = v := by simpa using h'
    exact alike_at (ok a (by simp)) A.1 B.1
  | a :: as, x :: xs, y :: ys, ok, A, B, i + 1, u, v, h, h' => alike_ats (fun b hb => ok b (by simp [hb])) A.2 B.2 i u v (by simpa using h) (by simpa using h')
theorem Alike.up {H : Hp} : ∀ {n : Nat} {x y : V}, Alike H n x y → Alike H (n + 1) x y
  | 0, x, y, h => by unfold Alike at h ⊢; exact .inl h
  | n + 1, x, y, h => by
    unfold Alike at h ⊢
    rcases h with h | ⟨a, b, xs, ys, h1, h2, h3, h4, h5, h6⟩
    · exact .inl h
    · exact .inr ⟨a, b, xs, ys, h1, h2, h3, h4, h5, fun i u v p q => Alike.up (h6 i u v p q)⟩
theorem alike_ru {H : Hp} {r : Ru} (ok : RuOk r) {x y : V} (hx : RuAt H x r) (hy : RuAt H y r) : Alike H 54 x y := by
  obtain ⟨p, q, vh, xs, rfl, hp, A1, hq, A2⟩ := hx
  obtain ⟨p', q', vh', ys, rfl, hp', B1, hq', B2⟩ := hy
  have lx := A2.len
  have ly := B2.len
  have few := ok.bd.few
  unfold Alike
  refine .inr ⟨p, p', _, _, rfl, rfl, .inr ⟨hp, hp'⟩, rfl, by simp, fun i u v h1 h2 => ?_⟩
  match i with
  | 0 =>
    simp at h1 h2; subst h1 h2; exact (alike_at ok.hd.toAtOk A1 B1).up
  | 1 =>
    simp at h1 h2; subst h1 h2
    unfold Alike
    exact .inr ⟨q, q', _, _, rfl, rfl, .inr ⟨hq, hq'⟩, by omega, by omega, alike_ats ok.bd.ok A2 B2⟩
  | i + 2 => simp at h1
theorem txts_inj : ∀ {ts us : List Tm}, (∀ t ∈ ts, t.small) → (∀ t ∈ us, t.small) → ts.map Tm.txt = us.map Tm.txt → ts = us
  | [], [], _, _, _ => rfl
  | [], _ :: _, _, _, h => by simp at h
  | _ :: _, [], _, _, h => by simp at h
  | t :: ts, u :: us, h, h', e => by
    rw [List.map_cons, List.map_cons] at e
    injection e with e1 e2
    rw [txt_inj (h t (by simp)) (h' u (by simp)) e1, txts_inj (fun s hs => h s (by simp [hs])) (fun s hs => h' s (by simp [hs])) e2]
theorem atxt_inj {a b : At} (ha : AtOk 50 a) (hb : AtOk 50 b) (e : atxt a = atxt b) : a = b := by
  have s1 := atxt_split ha
  rw [e, atxt_split hb] at s1
  unfold parts at s1
  injection s1 with e1 e2
  have e3 := txts_inj (fun t ht => (hb.sm t ht).1) (fun t ht => (ha.sm t ht).1) e2
  cases a; cases b
  simp only at e1 e3
  rw [e1, e3]
theorem atxts_inj : ∀ {as bs : List At}, (∀ a ∈ as, AtOk 50 a) → (∀ a ∈ bs, AtOk 50 a) → as.map atxt = bs.map atxt → as = bs
  | [], [], _, _, _ => rfl
  | [], _ :: _, _, _, h => by simp at h
  | _ :: _, [], _, _, h => by simp at h
  | t :: ts, u :: us, h, h', e => by
    rw [List.map_cons, List.map_cons] at e
    injection e with e1 e2
    rw [atxt_inj (h t (by simp)) (h' u (by simp)) e1, atxts_inj (fun s hs => h s (by simp [hs])) (fun s hs => h' s (by simp [hs])) e2]
theorem rtxt_inj {r s : Ru} (hr : RuOk r) (hs : RuOk s) (e : rtxt r = rtxt s) : r = s := by
  have ne : (" if " : Str) ≠ Str.empty := by decide +kernel
  by_cases h1 : r.bd = []
  · have p1 := rtxt_part0 hr h1
    by_cases h2 : s.bd = []
    · rw [e, rtxt_part0 hs h2] at p1
      have := atxt_inj hs.hd.toAtOk hr.hd.toAtOk (congrArg Prod.fst p1)
      cases r; cases s
      simp only at h1 h2 this
      rw [h1, h2, this]
    · rw [e, rtxt_part1 hs h2] at p1
      exact absurd (congrArg (fun z => z.2.1) p1) ne
  · have p1 := rtxt_part1 hr h1
    by_cases h2 : s.bd = []
    · rw [e, rtxt_part0 hs h2] at p1
      exact absurd (congrArg (fun z => z.2.1) p1).symm ne
    · rw [e, rtxt_part1 hs h2] at p1
      have g1 := atxt_inj hs.hd.toAtOk hr.hd.toAtOk (congrArg Prod.fst p1)
      have g2 : btxt s.bd = btxt r.bd := congrArg (fun z => z.2.2) p1
      have g3 := btxt_split hs.bd.ats h2
      rw [g2, btxt_split hr.bd.ats h1] at g3
      have g4 := atxts_inj hr.bd.ok hs.bd.ok g3
      cases r; cases s
      simp only at g1 g4
      rw [g1, g4]
/-! Things met. -/
inductive Th where
  | ru (r : Ru)
  | am (a : At)
def thTxt : Th → Str
  | .ru r => "rule " ++ rtxt r
  | .am a => "atom " ++ atxt a
def ThOk : Th → Prop
  | .ru r => RuOk r
  | .am a => AtOk 50 a
def ThAt (H : Hp) (v : V) : Th → Prop
  | .ru r => RuAt H v r
  | .am a => AtAt H v a
def ruD (r : Ru) : PyData := .tuple [atD r.hd, bdD r.bd]
def thD : Th → PyData
  | .ru r => ruD r
  | .am a => atD a
theorem ruAt_mono {H H' : Hp} (e : ∀ a xs, H a = some (.tup xs) → H' a = some (.tup xs)) {v : V} {r : Ru} (h : RuAt H v r) : RuAt H' v r := by
  obtain ⟨p, q, vh, xs, rfl, h1, h2, h3, h4⟩ := h
  exact ⟨p, q, vh, xs, rfl, e _ _ h1, atAt_mono e h2, e _ _ h3, h4.mono e⟩
theorem ThAt.mono {H H' : Hp} (e : ∀ a xs, H a = some (.tup xs) → H' a = some (.tup xs)) {v : V} {th : Th} (h : ThAt H v th) : ThAt H' v th := by
  cases th with
  | ru r => exact ruAt_mono e h
  | am a => exact atAt_mono e h
theorem ThAt.dp {K : PySem.W.Frag} {H : Hp} {v : V} {th : Th} (h : ThAt H v th) : Dp K H v (thD th) := by
  cases th with
  | ru r =>
    obtain ⟨p, q, vh, xs, rfl, h1, h2, h3, h4⟩ := h
    exact .tup (.inl (.inl h1)) (.cons (at_dp h2) (.cons (.tup (.inl (.inl h3)) (ats_dp h4)) .nil))
  | am a => exact at_dp h
theorem th_lay {th : Th} (ok : ThOk th) : (thD th).canLay0 = true ∧ (thD th).depth ≤ 60 := by
  cases th with
  | ru r =>
    have ok : RuOk r := ok
    have h1 := at_lay ok.hd.toAtOk
    have h2 := ats_lay ok.bd.ok
    constructor
    · show PyData.canLayAll0 [atD r.hd, .tuple (r.bd.map atD)] = true
      simp only [PyData.canLayAll0, PyData.canLay0, h1.1, h2.1]
      rfl
    · show PyData.depthAll [atD r.hd, .tuple (r.bd.map atD)] + 1 ≤ 60
      simp only [PyData.depthAll, PyData.depth]
      omega
  | am a =>
    have h1 := at_lay (a := a) ok
    exact ⟨h1.1, by show (atD a).depth ≤ 60; omega⟩
theorem th_shaped {th : Th} (ok : ThOk th) : SeqAt.shaped (thD th) = true := shaped_of (th_lay ok).1 (by have := (th_lay ok).2; omega)
theorem th_same {th : Th} (ok : ThOk th) : PyData.eqv (thD th) (thD th) = true := SeqAt.eqv_refl _ (th_lay ok).1
theorem t_rule : tl ("rule " : Str) = [114, 117, 108, 101, 32] := by decide +kernel
theorem t_atom : tl ("atom " : Str) = [97, 116, 111, 109, 32] := by decide +kernel
theorem pre_inj {p a b : Str} (e : p ++ a = p ++ b) : a = b := by
  have h := congrArg tl e
  rw [tl_append, tl_append] at h
  exact ext_tl (List.append_cancel_left h)
theorem thTxt_inj {s t : Th} (hs : ThOk s) (ht : ThOk t) (e : thTxt s = thTxt t) : s = t := by
  cases s with
  | ru r =>
    cases t with
    | ru r' => rw [rtxt_inj hs ht (pre_inj e)]
    | am a =>
      have h := congrArg tl e
      simp only [thTxt, tl_append, t_rule, t_atom] at h
      simp at h
  | am a =>
    cases t with
    | ru r' =>
      have h := congrArg tl e
      simp only [thTxt, tl_append, t_rule, t_atom] at h
      simp at h
    | am a' => rw [atxt_inj hs ht (pre_inj e)]
def MetAt (H : Hp) (kvs : KVs) : Prop := ∀ kv ∈ kvs, ∃ th : Th, kv.1 = .inr (thTxt th) ∧ ThAt H kv.2 th ∧ ThOk th
theorem MetAt.mono {H H' : Hp} (e : ∀ a xs, H a = some (.tup xs) → H' a = some (.tup xs)) {kvs : KVs} (h : MetAt H kvs) : MetAt H' kvs := fun kv hkv => by
  obtain ⟨th, h1, h2, h3⟩ := h kv hkv
  exact ⟨th, h1, h2.mono e, h3⟩
theorem MetAt.put {H : Hp} {kvs : KVs} (h : MetAt H kvs) {th : Th} {v : V} (hv : ThAt H v th) (ok : ThOk th) : MetAt H (putK kvs (.inr (thTxt th)) v) := by
  intro kv hkv
  unfold putK at hkv
  split at hkv
  · obtain ⟨kv0, h0, rfl⟩ := List.mem_map.mp hkv
    by_cases z : kv0.1 = .inr (thTxt th)
    · rw [if_pos z]; exact ⟨th, z, hv, ok⟩
    · rw [if_neg z]; exact h _ h0
  · rcases List.mem_append.mp hkv with hkv | hkv
    · exact h _ hkv
    · obtain rfl : kv = (.inr (thTxt th), v) := by simpa using hkv
      exact ⟨th, rfl, hv, ok⟩
theorem valV_mem {kvs : KVs} {k : L2.Key} {v : V} (h : valV kvs k = some v) : (k, v) ∈ kvs := by
  induction kvs with
  | nil => simp [valV] at h
  | cons p r ih =>
    by_cases e : p.1 = k
    · rw [valV_pos e] at h
      have : p = (k, v) := by
        cases p
        simp only at e h
        rw [e, Option.some.inj h]
      rw [this]; simp
    · rw [valV_neg e] at h
      exact List.mem_cons_of_mem _ (ih h)
theorem MetAt.get {H : Hp} {kvs : KVs} (h : MetAt H kvs) {th : Th} (ok : ThOk th) {v : V} (e : valV kvs (.inr (thTxt th)) = some v) : ThAt H v th := by
  obtain ⟨th', h1, h2, h3⟩ := h _ (valV_mem e)
  have : th = th' := thTxt_inj ok h3 (Sum.inr.inj h1)
  rw [this]; exact h2
end Rp

set_option maxHeartbeats 16000000
/-! The law. -/
namespace Rp
open PySem PySem.Spec PyProof.Rows L2 TL StX
def spLaw (K : PySem.W.Frag) : Sp := fun vs H Q _ => ∃ (a : Addr) (ns : List Int), vs = [.ref a] ∧ SqL K H a (ns.map V.int) ∧ ns.length ≤ 63 ∧ ∀ H', Q (.bl true) H'
def teTm : TE := tCall (spLTerm 5) [] E0 (tCons (tVar 3) (tCons (tCall spTake [] E0 (tCons (tVar 3) (tCons (tC (.int 5)) tNil))) tNil))
theorem alike_strs {H : Hp} {p q : Addr} {x y : Str} {n : Nat} (hp : H p = some (.lst [.str x, .str y])) (hq : H q = some (.lst [.str x, .str y])) : Alike H (n + 1) (.ref p) (.ref q) := by
  unfold Alike
  refine .inr ⟨p, q, _, _, rfl, rfl, .inl ⟨hp, hq⟩, rfl, by simp, fun i u v h1 h2 => ?_⟩
  match i with
  | 0 => simp at h1 h2; subst h1 h2; exact alike_plain trivial
  | 1 => simp at h1 h2; subst h1 h2; exact alike_plain trivial
  | i + 2 => simp at h1
theorem Alike.ups {H : Hp} {x y : V} {n m : Nat} (h : Alike H n x y) (le : n ≤ m) : Alike H m x y := by
  obtain ⟨k, rfl⟩ := Nat.exists_eq_add_of_le le
  clear le
  induction k with
  | zero => exact h
  | succ k ih => exact ih.up
section
variable {P : Program} {w : World} {K : PySem.W.Frag} {mg : Str → Option Value} {base : Heap}
abbrev NL : List Str := ["_law_script", "_law_cells", "_law_k", "_law_box_here", "_law_counts_here", "_law_met", "_law_turn", "_law_rule_here", "_law_word", "_law_atom", "_law_due", "_law_again", "_law_thing", "_law_text", "_law_place"]
theorem scLaw : FnScope NL ["_law_script"] (defScope sLaw) := ⟨rfl, rfl, rfl, by decide +kernel, rfl, by decide +kernel, by decide +kernel⟩
theorem ok_law {f fFo fB fT fP fW fC fR fTm fRT fAT fS fLR fLA fRI fAI : Addr} {fd dFo dB dT dP dW dC dR dTm dRT dAT dS dLR dLA dRI dAI : FuncData} (F : Fun K "law" "law" sLaw f fd)
    (GFo : FnOk P w K mg base CX0 1 fFo dFo ["_law_script", "_law_count"] (spFolded K)) (kFo : PySem.W.keepIn K (.ref fFo) = true) (bFo : Binds K dFo ["_law_script", "_law_count"] []) (mFo : mg "_law_folded" = some (.ref fFo))
    (GB : FnOk P w K mg base CX0 1 fB dB ["_law_script", "_law_k"] (spBox K)) (kB : PySem.W.keepIn K (.ref fB) = true) (bB : Binds K dB ["_law_script", "_law_k"] []) (mB : mg "_law_box" = some (.ref fB))
    (GT : FnOk P w K mg base CX0 1 fT dT ["_law_box_here", "_law_top"] spTake) (kT : PySem.W.keepIn K (.ref fT) = true) (bT : Binds K dT ["_law_box_here", "_law_top"] []) (mT : mg "_law_take" = some (.ref fT))
    (GP : FnOk P w K mg base CX0 2 fP dP ["_law_box_here", "_law_things"] spPick) (kP : PySem.W.keepIn K (.ref fP) = true) (bP : Binds K dP ["_law_box_here", "_law_things"] []) (mP : mg "_law_pick" = some (.ref fP))
    (GW : FnOk P w K mg base CX0 2 fW dW ["_law_box_here", "_law_count"] spWords) (kW : PySem.W.keepIn K (.ref fW) = true) (bW : Binds K dW ["_law_box_here", "_law_count"] []) (mW : mg "_law_words" = some (.ref fW))
    (GC : FnOk P w K mg base CX0 2 fC dC ["_law_box_here", "_law_words_here"] spCounts) (kC : PySem.W.keepIn K (.ref fC) = true) (bC : Binds K dC ["_law_box_here", "_law_words_here"] []) (mC : mg "_law_counts" = some (.ref fC))
    (GR : FnOk P w K mg base CX0 3 fR dR ["_law_box_here", "_law_counts_here"] spLRule) (kR : PySem.W.keepIn K (.ref fR) = true) (bR : Binds K dR ["_law_box_here", "_law_counts_here"] []) (mR : mg "_law_rule" = some (.ref fR))
    (GTm : FnOk P w K mg base CX0 7 fTm dTm ["_law_box_here", "_law_deep"] (spLTerm 5)) (kTm : PySem.W.keepIn K (.ref fTm) = true) (bTm : Binds K dTm ["_law_box_here", "_law_deep"] []) (mTm : mg "_law_term" = some (.ref fTm))
    (GRT : FnOk P w K mg base CX0 7 fRT dRT ["rule"] spRuleText) (kRT : PySem.W.keepIn K (.ref fRT) = true) (bRT : Binds K dRT ["rule"] []) (mRT : mg "rule_text" = some (.ref fRT))
    (GAT : FnOk P w K mg base CX0 5 fAT dAT ["atom"] spAtomText) (kAT : PySem.W.keepIn K (.ref fAT) = true) (bAT : Binds K dAT ["atom"] []) (mAT : mg "atom_text" = some (.ref fAT))
    (GS : FnOk P w K mg base CX0 61 fS dS ["_law_found", "_law_due"] (spSame 61)) (kS : PySem.W.keepIn K (.ref fS) = true) (bS : Binds K dS ["_law_found", "_law_due"] []) (mS : mg "_law_same" = some (.ref fS))
    (GLR : FnOk P w K mg base CX0 62 fLR dLR ["_law_rule_here"] spRuleText) (kLR : PySem.W.keepIn K (.ref fLR) = true) (bLR : Binds K dLR ["_law_rule_here"] []) (mLR : mg "_law_rule_text" = some (.ref fLR))
    (GLA : FnOk P w K mg base CX0 61 fLA dLA ["_law_atom"] spAtomText) (kLA : PySem.W.keepIn K (.ref fLA) = true) (bLA : Binds K dLA ["_law_atom"] []) (mLA : mg "_law_atom_text" = some (.ref fLA))
    (GRI : FnOk P w K mg base CX0 9 fRI dRI ["text"] spRuleOr) (kRI : PySem.W.keepIn K (.ref fRI) = true) (bRI : Binds K dRI ["text"] []) (mRI : mg "rule_in" = some (.ref fRI))
    (GAI : FnOk P w K mg base CX0 7 fAI dAI ["text"] spAtomOr) (kAI : PySem.W.keepIn K (.ref fAI) = true) (bAI : Binds K dAI ["text"] []) (mAI : mg "atom_in" = some (.ref fAI))
    (mRange : mg "range" = none) (mLen : mg "len" = none) (mSorted : mg "sorted" = none) (mTuple : mg "tuple" = none) (mZip : mg "zip" = none) : FnOk P w K mg base CX0 63 f fd ["_law_script"] (spLaw K) := by
  refine F.ok scLaw (fun vs H Q E h => ?_) (fun cdv A outer s H vs Q E hr h => ?_)
  · obtain ⟨a, ns, rfl, _⟩ := h
    rfl
  obtain ⟨a, ns, rfl, hS, hl, q⟩ := h
  have r1 : Room 1 _ := hr.mono (by decide)
  have r2 : Room 2 _ := hr.mono (by decide)
  have r3 : Room 3 _ := hr.mono (by decide)
  have r5 : Room 5 _ := hr.mono (by decide)
  have r7 : Room 7 _ := hr.mono (by decide)
  have r9 : Room 9 _ := hr.mono (by decide)
  have r61 : Room 61 _ := hr.mono (by decide)
  refine ⟨_, pss_cons (ps_set (i := 1) scLaw.nd rfl (Or.inl rfl) (pe_call GFo r1 rfl mFo kFo bFo .nil pass0 (pa_cons (pv 0) (pa_cons pe_int pa_nil))))
    (pss_cons (ps_for PassesOwn.never rfl (pi_range1 (by rfl) mRange (pa_cons (pe_callB call_len_seq (by rfl) mLen PySem.boot_len (pa_cons (pv 1) pa_nil)) pa_nil)) (pg_name (i := 2) scLaw.nd rfl (Or.inl rfl))
      (pss_cons (ps_set (i := 3) scLaw.nd rfl (Or.inr rfl) (pe_call GB r1 rfl mB kB bB .nil pass0 (pa_cons (pv 1) (pa_cons (pv 2) pa_nil))))
      (pss_cons (ps_par (i := 4) (j := 5) rfl scLaw.nd rfl rfl (by decide) rfl rfl (pa_cons (pe_call GC r2 rfl mC kC bC .nil pass0 (pa_cons (pv 3) (pa_cons (pe_op op_cat (pe_call GW r2 rfl mW kW bW .nil pass0 (pa_cons (pv 3) (pa_cons pe_int pa_nil)))
          (pe_slice sl_list (pe_lst (pa_cons pe_str (pa_cons pe_str (pa_cons pe_str pa_nil)))) po_none (po_some (pe_call GT r1 rfl mT kT bT .nil pass0 (pa_cons (pv 3) (pa_cons pe_int pa_nil)))))) pa_nil))) (pa_cons pe_dnewK pa_nil)) (by rfl))
      (pss_one (ps_for PassesOwn.never rfl (pi_range1 (by rfl) mRange (pa_cons pe_int pa_nil)) (pg_name (i := 6) scLaw.nd rfl (Or.inl rfl))
        (pss_cons (ps_par (i := 7) (j := 8) rfl scLaw.nd rfl rfl (by decide) rfl rfl (pa_cons (pe_call GR r3 rfl mR kR bR .nil pass0 (pa_cons (pv 3) (pa_cons (pv 4) pa_nil)))
          (pa_cons (pe_call GP r2 rfl mP kP bP .nil pass0 (pa_cons (pv 3) (pa_cons (pe_callB (call_sortedD rfl) (by rfl) mSorted (by decide +kernel) (pa_cons (pv 4) pa_nil)) pa_nil))) pa_nil)) (by rfl))
        (pss_cons (ps_set (i := 9) scLaw.nd rfl (Or.inl rfl) (pe_op op_catT (pe_tup (pa_cons (pv 8) pa_nil)) (pe_callTy call_tuple_of (by rfl) mTuple (by decide +kernel) (pa_cons
          (pe_lc (own := [("_law_place", 14)]) (g := gName 14) (tt := tYes) (te := teTm) rfl scLaw.nd (pi_range1 (by rfl) mRange (pa_cons (pe_dget (hu_of hr) (pv 4) (pv 8) (fun _ _ => rfl)) pa_nil)) (blkOk_by (N := NL) (sc := defScope sLaw) (by decide +kernel))
            (fun _ _ _ _ _ => pg_name (i := 14) scLaw.nd rfl (Or.inl rfl)) (fun _ _ _ _ _ => pts_nil) (fun _ _ _ _ _ => pe_call GTm r7 (by rfl) mTm kTm bTm .nil pass0 (pa_cons (pv 3) (pa_cons (pe_call GT r1 (by rfl) mT kT bT .nil pass0 (pa_cons (pv 3) (pa_cons pe_int pa_nil))) pa_nil)))) pa_nil))))
        (pss_cons (ps_set (i := 10) scLaw.nd rfl (Or.inl rfl) (pe_lst (pa_cons (pe_call GLR hr rfl mLR kLR bLR .nil pass0 (pa_cons (pv 7) pa_nil)) (pa_cons (pe_call GLA r61 rfl mLA kLA bLA .nil pass0 (pa_cons (pv 9) pa_nil)) pa_nil))))
        (pss_cons (ps_for PassesOwn.never rfl (pi_range1 (by rfl) mRange (pa_cons pe_int pa_nil)) (pg_name (i := 11) scLaw.nd rfl (Or.inl rfl))
          (pss_cons (ps_if (pt_not (pt_val (pe_call GS r61 rfl mS kS bS .nil pass0 (pa_cons (pe_lst (pa_cons (pe_call GRT r7 rfl mRT kRT bRT .nil pass0 (pa_cons (pv 7) pa_nil)) (pa_cons (pe_call GAT r5 rfl mAT kAT bAT .nil pass0 (pa_cons (pv 9) pa_nil)) pa_nil))) (pa_cons (pv 10) pa_nil))))) (pss_one (ps_ret pe_bl)) pss_nil)
          (pss_one (ps_if (pt_not (pt_val (pe_call GS r61 rfl mS kS bS .nil pass0 (pa_cons (pe_lst (pa_cons (pe_call GRI r9 rfl mRI kRI bRI .nil pass0 (pa_cons (pe_ix ix_list (pv 10) pe_int (fun _ _ => rfl)) pa_nil)) (pa_cons (pe_call GAI r7 rfl mAI kAI bAI .nil pass0 (pa_cons (pe_ix ix_list (pv 10) pe_int (fun _ _ => rfl)) pa_nil)) pa_nil)))
            (pa_cons (pe_lst (pa_cons (pv 7) (pa_cons (pv 9) pa_nil))) pa_nil))))) (pss_one (ps_ret pe_bl)) pss_nil))))
        (pss_one (ps_for PassesOwn.never rfl (pi_zip (by rfl) mZip (pa_cons (pe_lst (pa_cons (pv 7) (pa_cons (pv 9) pa_nil))) (pa_cons (pe_lst (pa_cons (pe_op op_addS pe_str (pe_ix ix_list (pv 10) pe_int (fun _ _ => rfl))) (pa_cons (pe_op op_addS pe_str (pe_ix ix_list (pv 10) pe_int (fun _ _ => rfl))) pa_nil))) pa_nil)))
            (pg_tup (by rfl) (pgs_cons (pg_name (i := 12) scLaw.nd rfl (Or.inl rfl)) (pgs_cons (pg_name (i := 13) scLaw.nd rfl (Or.inl rfl)) pgs_nil)))
          (pss_one (ps_if (pt_cmpR (op_neD hr.units) (pe_dsetd (pv 5) (pv 13) (pv 12) ⟨rfl, rfl, rfl, rfl⟩) (pv 12) (nomark _)) (pss_one (ps_ret pe_bl)) pss_nil)))))))))))))
    (pss_one (ps_ret pe_bl))), ?_⟩
  have big : (10000 : Nat) ≤ sizeLine := by decide
  refine ⟨_, rfl, a, ns, rfl, hS, hl, fun p cs H1 hp0 hp c1 c4 s1 => ?_⟩
  refine ⟨_, rfl, p, _, rfl, .inl (.inl (.inl hp)), _, rfl, by rw [List.length_map]; omega, by rw [List.length_map]; omega, for_range (lo := 0) (n := (((cs.map V.int).length : Nat) : Int).toNat) (fun i σ H2 => ∃ (x2 x3 x4 x5 x6 x7 x8 x9 x10 x11 x12 x13 : Option V), σ = [some (.ref a), some (.ref p), x2, x3, x4, x5, x6, x7, x8, x9, x10, x11, x12, x13, none] ∧ H2 p = some (.lst (cs.map V.int)))
    ⟨_, _, _, _, _, _, _, _, _, _, _, _, rfl, hp⟩ ?_ ?_⟩
  · rintro i σ H2 hi ⟨x2, x3, x4, x5, x6, x7, x8, x9, x10, x11, x12, x13, rfl, hp2⟩
    rw [List.length_map] at hi
    have i4 : i < 4 := by omega
    refine ⟨_, rfl, _, rfl, p, cs, _, rfl, .inl (.inl hp2), by omega, by omega, by omega, fun b H3 hb0 B3 s3 => ?_⟩
    have hp3 := s3 _ _ hp2
    have pb : p ≠ b := ne_of_none hp2 hb0
    refine ⟨_, rfl, _, rfl, b, _, rfl, B3, by decide, fun pw ws H4 hpw0 hpw wl wo B4 o4 => ?_⟩
    obtain ⟨y3, hb3⟩ := B3.some
    have pwb : pw ≠ b := (ne_of_none hb3 hpw0).symm
    refine ⟨(by show 3 ≤ sizeLine; decide), fun l hl => ?_⟩
    have s5 := same_new hl (.lst [V.str "s", V.str "f", V.str "x"])
    obtain ⟨y4, hb4⟩ := B4.some
    have lb : l ≠ b := (ne_of_none hb4 hl).symm
    refine ⟨_, rfl, b, _, _, rfl, B4.same s5, by decide, by decide, by decide, fun z H6 z0 z1 B6 o6 => ?_⟩
    obtain ⟨k, rfl⟩ := Int.eq_ofNat_of_zero_le z0
    have hl6 := o6 _ _ (upd_same : (upd H4 l (.lst [V.str "s", V.str "f", V.str "x"])) l = _) lb
    refine ⟨(k : Int), rfl, l, _, rfl, .inl (.inl hl6), fun g hg => ?_⟩
    obtain ⟨es, e7, ex, el⟩ : ∃ es : List Str, [V.str "s", V.str "f", V.str "x"].take k = es.map V.str ∧ (∀ x ∈ es, NameOk x) ∧ es.length ≤ 3 := by
      refine ⟨(["s", "f", "x"] : List Str).take k, by rw [List.map_take]; rfl, fun x hx => ?_, by rw [List.length_take]; exact Nat.min_le_right _ _⟩
      have hx := List.mem_of_mem_take hx
      simp only [List.mem_cons, List.not_mem_nil, or_false] at hx
      rcases hx with rfl | rfl | rfl
      · exact ⟨by decide +kernel, by decide +kernel, by decide +kernel, by decide +kernel⟩
      · exact ⟨by decide +kernel, by decide +kernel, by decide +kernel, by decide +kernel⟩
      · exact ⟨by decide +kernel, by decide +kernel, by decide +kernel, by decide +kernel⟩
    rw [cut_to, e7]
    have s7 := same_new hg (.lst (es.map V.str))
    have hpw7 := s7 _ _ (o6 _ _ (s5 _ _ hpw) pwb)
    have gb : g ≠ b := by
      obtain ⟨y6, hb6⟩ := B6.some
      exact (ne_of_none hb6 hg).symm
    refine ⟨pw, g, _, _, rfl, rfl, hpw7, upd_same, by rw [List.length_map, List.length_map]; omega, fun u hu => ?_⟩
    rw [← List.map_append]
    have s8 := same_new hu (.lst ((ws ++ es).map V.str))
    have ub : u ≠ b := by
      obtain ⟨y6, hb6⟩ := (B6.same s7).some
      exact (ne_of_none hb6 hu).symm
    refine ⟨b, u, ws ++ es, _, rfl, (B6.same s7).same s8, upd_same, ub, by rw [List.length_append]; omega, by rw [List.length_append]; omega, fun x hx => ?_, by decide, fun d cts H9 hd0 hd9 ct B9 o9 => ?_⟩
    · rcases List.mem_append.mp hx with hx | hx
      · exact wo x hx
      · exact ex x hx
    have o39 : But b H3 H9 := o4.trans ((but_of s5).trans (o6.trans ((but_of s7).trans ((but_of s8).trans o9))))
    have hp9 := o39 _ _ hp3 pb
    refine fun m hm => ⟨_, _, rfl, ?_⟩
    have s10 := same_new hm (.dK [])
    have B10 := (B9.same s10).more (k := 18) (by omega)
    have hp10 := s10 _ _ hp9
    have hd10 := s10 _ _ hd9
    have hm10 : (upd H9 m (.dK [])) m = some (.dK []) := upd_same
    have dm : d ≠ m := ne_of_none hd9 hm
    obtain ⟨y10, hb10⟩ := B10.some
    have mb : m ≠ b := ne_of hm10 hb10 (by intro z; cases z)
    have db : d ≠ b := ne_of hd10 hb10 (by intro z; cases z)
    have pm : p ≠ m := ne_of hp10 hm10 (by intro z; cases z)
    have pd : p ≠ d := ne_of hp10 hd10 (by intro z; cases z)
    generalize upd H9 m (.dK []) = H10 at B10 hp10 hd10 hm10 hb10 ⊢
    obtain ⟨ks, ke, kl, ko⟩ := ct_keys ct.each
    have ct1 := ct.one
    have ct7 := ct.few
    refine ⟨_, rfl, by decide, by decide, for_range (lo := 0) (n := (10 : Int).toNat) (fun t σ H11 => ∃ (met : KVs) (x6 x7 x8 x9 x10 x11 x12 x13 : Option V), σ = [some (.ref a), some (.ref p), some (.int (0 + (i : Nat))), some (.ref b), some (.ref d), some (.ref m), x6, x7, x8, x9, x10, x11, x12, x13, none] ∧
        H11 p = some (.lst (cs.map V.int)) ∧ H11 d = some (.dK cts) ∧ H11 m = some (.dK met) ∧ MetAt H11 met ∧ met.length ≤ 2 * t ∧ BoxAt H11 b (18 + 213 * t))
      ⟨[], _, _, _, _, _, _, _, _, rfl, hp10, hd10, hm10, (fun kv h => by simp at h), by decide, B10⟩ ?_ ?_⟩
    · rintro t σ H11 ht ⟨met, x6, x7, x8, x9, x10, x11, x12, x13, rfl, hp11, hd11, hm11, M11, ml, B11⟩
      have t10 : t < 10 := by omega
      refine ⟨_, rfl, _, rfl, b, d, cts, _, rfl, B11, hd11, ct, by omega, fun vr r H12 R12 rok B12 o12 => ?_⟩
      have hd12 := o12 _ _ hd11 db
      refine ⟨_, rfl, _, rfl, d, cts, ks, rfl, .inl hd12, ke, by omega, fun ys qa perm srt hq => ?_⟩
      have s13 := same_new hq (.lst (ys.map V.str))
      have yl : ys.length = ks.length := perm.length_eq
      obtain ⟨y12, hb12⟩ := B12.some
      have qb : qa ≠ b := (ne_of_none hb12 hq).symm
      refine ⟨b, qa, ys.map V.str, _, rfl, B12.same s13, by omega, upd_same, qb, by rw [List.length_map]; omega, by rw [List.length_map]; omega, fun v H14 hv B14 o14 => ⟨_, _, rfl, ?_⟩⟩
      obtain ⟨x, hx, rfl⟩ := List.mem_map.mp hv
      obtain ⟨xo, mm, hmm, mm1, mm2⟩ := ko x (perm.mem_iff.mp hx)
      have o1114 : But b H11 H14 := o12.trans ((but_of s13).trans o14)
      have hd14 := o1114 _ _ hd11 db
      obtain ⟨y13, hb13⟩ := (B12.same s13).some
      have R14 : RuAt H14 vr r := ruAt_mono (fun q zs z => o14 _ _ (s13 _ _ z) (ne_of (s13 _ _ z) hb13 (by intro e; cases e))) R12
      refine ⟨_, rfl, (by show 1 ≤ sizeLine; decide), fun t1 ht1 => ?_⟩
      have s15 := same_new ht1 (.tup [V.str x])
      have hd15 := s15 _ _ hd14
      obtain ⟨y15, hb15⟩ := (B14.same s15).some
      have ht15 : (upd H14 t1 (.tup [V.str x])) t1 = some (.tup [V.str x]) := upd_same
      refine ⟨_, rfl, _, rfl, d, _, rfl, by rw [← hmm]; exact DGet.k (k := Sum.inr x) hd15, _, rfl, by omega, by omega, fun D hD => lc_range (lo := 0) (fun e H16 => ∃ (xs : List V) (ts : List Tm), H16 D = some (.lst xs) ∧ AllAt H16 xs ts ∧ ts.length = e ∧ (∀ u ∈ ts, u.small ∧ u.size ≤ 50) ∧ BoxAt H16 b (18 + 213 * t + 21 + 96 * e) ∧ But b (upd H14 t1 (.tup [V.str x])) H16)
        ⟨[], [], upd_same, trivial, rfl, by simp, ((B14.same s15).same (same_new hD _)).more (by omega), but_of (same_new hD _)⟩ ?_ ?_⟩
      · rintro e H16 he ⟨xs, ts, h16, A16, tl, tk, B16, o16⟩
        have Db : D ≠ b := (ne_of_none hb15 hD).symm
        have xl := A16.len
        refine ⟨rfl, ?_⟩
        unfold teTm
        refine ⟨_, rfl, _, rfl, b, _, _, rfl, B16, by omega, by decide, by decide, fun z H17 z0 z1 B17 o17 => ?_⟩
        obtain ⟨dn, rfl⟩ := Int.eq_ofNat_of_zero_le z0
        have dn4 : dn ≤ 4 := by omega
        have pw1 : 2 ^ dn ≤ 2 ^ 4 := Nat.pow_le_pow_right (by decide) dn4
        have pw2 : 2 ^ (dn + 1) ≤ 2 ^ 5 := Nat.pow_le_pow_right (by decide) (by omega)
        refine ⟨b, _, dn, rfl, B17, by omega, dn4, by omega, fun v u H18 T18 sm sz B18 o18 => ?_⟩
        have h18 := o18 _ _ (o17 _ _ h16 Db) Db
        obtain ⟨y16, hb16⟩ := B16.some
        obtain ⟨y17, hb17⟩ := B17.some
        have keep : ∀ q zs, H16 q = some (.tup zs) → (upd H18 D (.lst (xs ++ [v]))) q = some (.tup zs) := fun q zs z => by
          have nb := ne_of z hb16 (by intro e; cases e)
          rw [upd_ne (ne_of z h16 (by intro e; cases e))]
          exact o18 _ _ (o17 _ _ z nb) nb
        have keep2 : ∀ q zs, H18 q = some (.tup zs) → (upd H18 D (.lst (xs ++ [v]))) q = some (.tup zs) := fun q zs z => by
          rw [upd_ne (ne_of z h18 (by intro e; cases e))]; exact z
        refine ⟨xs, h18, by omega, xs ++ [v], ts ++ [u], upd_same, (A16.mono keep).append ⟨T18.mono keep2, trivial⟩, by simp [tl], fun y hy => ?_, (B18.upd Db _).more (by omega), ?_⟩
        · rcases List.mem_append.mp hy with hy | hy
          · exact tk y hy
          · obtain rfl : y = u := by simpa using hy
            exact ⟨sm, by omega⟩
        · intro y o w nb
          rw [upd_ne (ne_of_none w hD)]
          exact o18 _ _ (o17 _ _ (o16 _ _ w nb) nb) nb
      · rintro H16 ⟨xs, ts, h16, A16, tl, tk, B16, o16⟩
        have tl2 : ts.length = mm := by rw [tl]; omega
        have xl := A16.len
        refine ⟨D, xs, rfl, .inl ⟨.inl (.inl h16), fun g hg => ?_⟩⟩
        have s17 := same_new hg (.tup xs)
        have t1b : t1 ≠ b := ne_of ht15 hb15 (by intro z; cases z)
        have ht16 := o16 _ _ ht15 t1b
        refine ⟨t1, g, [V.str x], xs, rfl, rfl, .inl (.inl (s17 _ _ ht16)), .inl (.inl upd_same), by simp, by simp; omega, fun e => ?_, fun _ t2 ht2 => ?_⟩
        · rw [e] at xl; simp at xl; omega
        have s18 := same_new ht2 (.tup ([V.str x] ++ xs))
        have aok : AtOk 50 ⟨x, ts⟩ := ⟨xo, by show 1 ≤ ts.length; omega, by show ts.length ≤ 2; omega, tk⟩
        have A18 : AtAt (upd (upd H16 g (.tup xs)) t2 (.tup ([V.str x] ++ xs))) (.ref t2) ⟨x, ts⟩ := ⟨t2, xs, rfl, upd_same, A16.mono fun q zs z => s18 _ _ (s17 _ _ z)⟩
        have B18 := ((B16.same s17).same s18).more (k := 18 + 213 * (t + 1)) (by omega)
        have o1118 : But b H11 (upd (upd H16 g (.tup xs)) t2 (.tup ([V.str x] ++ xs))) := o1114.trans ((but_of s15).trans (o16.trans ((but_of s17).trans (but_of s18))))
        have R18 : RuAt (upd (upd H16 g (.tup xs)) t2 (.tup ([V.str x] ++ xs))) vr r := by
          have R15 := ruAt_mono (fun q zs z => s15 _ _ z) R14
          have R16 : RuAt H16 vr r := ruAt_mono (fun q zs z => o16 _ _ z (ne_of z hb15 (by intro e; cases e))) R15
          exact ruAt_mono (fun q zs z => s18 _ _ (s17 _ _ z)) R16
        generalize upd (upd H16 g (.tup xs)) t2 (.tup ([V.str x] ++ xs)) = H18 at A18 B18 o1118 R18 ⊢
        generalize hat : (⟨x, ts⟩ : At) = at_ at aok A18
        refine ⟨_, rfl, vr, r, rfl, R18, rok, fun H19 s19 => ?_⟩
        refine ⟨_, rfl, _, at_, rfl, atAt_same A18 s19, aok, fun H20 s20 => ⟨(by show 2 ≤ sizeLine; decide), fun u hu => ?_⟩⟩
        have s21 := same_new hu (.lst [V.str (rtxt r), V.str (atxt at_)])
        have s1821 := s19.trans (s20.trans s21)
        have hu21 : (upd H20 u (.lst [V.str (rtxt r), V.str (atxt at_)])) u = some (.lst [V.str (rtxt r), V.str (atxt at_)]) := upd_same
        generalize upd H20 u (.lst [V.str (rtxt r), V.str (atxt at_)]) = H21 at s1821 hu21 ⊢
        have R21 := R18.same s1821
        have A21 := atAt_same A18 s1821
        have B21 := B18.same s1821
        have o1121 := o1118.trans (but_of s1821)
        refine ⟨_, rfl, by decide, by decide, for_range (lo := 0) (n := (2 : Int).toNat) (fun e σ H22 => ∃ (x11 : Option V), σ = [some (.ref a), some (.ref p), some (.int (0 + (i : Nat))), some (.ref b), some (.ref d), some (.ref m), some (.int (0 + (t : Nat))), some vr, some (.str x), some (.ref t2), some (.ref u), x11, x12, x13, none] ∧ Same H21 H22)
          ⟨_, rfl, Same.refl _⟩ ?_ ?_⟩
        · rintro e σ H22 he ⟨x11, rfl, s22⟩
          refine ⟨_, rfl, vr, r, rfl, R21.same s22, rok, fun H23 s23 => ?_⟩
          refine ⟨_, rfl, _, at_, rfl, atAt_same A21 (s22.trans s23), aok, fun H24 s24 => ⟨(by show 2 ≤ sizeLine; decide), fun e1 he1 => ?_⟩⟩
          have s25 := same_new he1 (.lst [V.str (rtxt r), V.str (atxt at_)])
          have s2125 := s22.trans (s23.trans (s24.trans s25))
          refine ⟨_, rfl, _, _, 60, rfl, rfl, alike_strs upd_same (s2125 _ _ hu21), fun H26 s26 => ⟨true, rfl, iteF ?_⟩⟩
          have s2126 := s2125.trans s26
          refine ⟨_, rfl, u, _, _, _, rfl, rfl, .inl (.inl (s2126 _ _ hu21)), at_of (j := 0) rfl rfl, r, rfl, rok, fun v1 H27 R27 s27 => ?_⟩
          refine ⟨_, rfl, u, _, _, _, rfl, rfl, .inl (.inl (s27 _ _ (s2126 _ _ hu21))), at_of (j := 1) rfl rfl, at_, rfl, aok, fun v2 H28 A28 s28 => ⟨(by show 2 ≤ sizeLine; decide), fun e2 he2 => ?_⟩⟩
          have s29 := same_new he2 (.lst [v1, v2])
          refine ⟨_, rfl, _, rfl, (by show 2 ≤ sizeLine; decide), fun e3 he3 => ?_⟩
          have s30 := same_new he3 (.lst [vr, V.ref t2])
          have s2130 := s2126.trans (s27.trans (s28.trans (s29.trans s30)))
          have al : Alike (upd (upd H28 e2 (.lst [v1, v2])) e3 (.lst [vr, V.ref t2])) 60 (.ref e2) (.ref e3) := by
            unfold Alike
            refine .inr ⟨e2, e3, _, _, rfl, rfl, .inl ⟨s30 _ _ upd_same, upd_same⟩, rfl, by simp, fun j y z g1 g2 => ?_⟩
            match j with
            | 0 =>
              simp at g1 g2; subst g1 g2
              exact (alike_ru rok (R27.same (s28.trans (s29.trans s30))) (R21.same s2130)).ups (by decide)
            | 1 =>
              simp at g1 g2; subst g1 g2
              exact (alike_at aok (atAt_same A28 (s29.trans s30)) (atAt_same A21 s2130)).ups (by decide)
            | j + 2 => simp at g1
          exact ⟨_, _, 60, rfl, rfl, al, fun H31 s31 => ⟨true, rfl, iteF ⟨_, rfl, s2130.trans s31⟩⟩⟩
        · rintro σ H22 ⟨x11, rfl, s22⟩
          refine ⟨_, rfl, _, rfl, (by show 2 ≤ sizeLine; decide), fun l1 hl1 => ?_⟩
          have s23 := same_new hl1 (.lst [vr, V.ref t2])
          have lr := rtxt_len rok
          have la := atxt_len aok
          have l5 : ("rule " : Str).length = 5 := by decide +kernel
          have l6 : ("atom " : Str).length = 5 := by decide +kernel
          have s2123 := s22.trans s23
          have hu23 := s2123 _ _ hu21
          refine ⟨_, rfl, u, _, _, _, rfl, rfl, .inl (.inl hu23), at_of (j := 0) rfl rfl, _, _, rfl, rfl, by omega, ?_⟩
          refine ⟨_, rfl, u, _, _, _, rfl, rfl, .inl (.inl hu23), at_of (j := 1) rfl rfl, _, _, rfl, rfl, by omega, (by show 2 ≤ sizeLine; decide), fun l2 hl2 => ?_⟩
          have s24 := same_new hl2 (.lst [V.str ("rule " ++ rtxt r), V.str ("atom " ++ atxt at_)])
          have s2124 := s2123.trans s24
          have hl1' : (upd (upd H22 l1 (.lst [vr, V.ref t2])) l2 (.lst [V.str ("rule " ++ rtxt r), V.str ("atom " ++ atxt at_)])) l1 = some (.lst [vr, V.ref t2]) := s24 _ _ upd_same
          have hl2' : (upd (upd H22 l1 (.lst [vr, V.ref t2])) l2 (.lst [V.str ("rule " ++ rtxt r), V.str ("atom " ++ atxt at_)])) l2 = some (.lst [V.str ("rule " ++ rtxt r), V.str ("atom " ++ atxt at_)]) := upd_same
          generalize upd (upd H22 l1 (.lst [vr, V.ref t2])) l2 (.lst [V.str ("rule " ++ rtxt r), V.str ("atom " ++ atxt at_)]) = H24 at s2124 hl1' hl2' ⊢
          have o1124 := o1121.trans (but_of s2124)
          have R24 := R21.same s2124
          have A24 := atAt_same A21 s2124
          have B24 := B21.same s2124
          have hp24 := o1124 _ _ hp11 pb
          have hd24 := o1124 _ _ hd11 db
          have hm24 := o1124 _ _ hm11 mb
          obtain ⟨y11, hb11⟩ := B11.some
          have M24 : MetAt H24 met := M11.mono fun q zs z => o1124 _ _ z (ne_of z hb11 (by intro e; cases e))
          have l1m : l1 ≠ m := ne_of hl1' hm24 (by intro z; cases z)
          have l2m : l2 ≠ m := ne_of hl2' hm24 (by intro z; cases z)
          have each : ∀ (e : Nat) (y z : V), [vr, V.ref t2][e]? = some y → [V.str ("rule " ++ rtxt r), V.str ("atom " ++ atxt at_)][e]? = some z → ∃ th, z = .str (thTxt th) ∧ ThAt H24 y th ∧ ThOk th := fun e y z h1 h2 => by
            match e with
            | 0 => simp at h1 h2; subst h1 h2; exact ⟨.ru r, rfl, R24, rok⟩
            | 1 => simp at h1 h2; subst h1 h2; exact ⟨.am at_, rfl, A24, aok⟩
            | e + 2 => simp at h1
          refine ⟨l1, l2, _, _, rfl, .inl (.inl hl1'), .inl (.inl hl2'), for_it (walk_zip (xs := [vr, V.ref t2]) (ys := [V.str ("rule " ++ rtxt r), V.str ("atom " ++ atxt at_)]) rfl) (fun e σ H25 => ∃ (met' : KVs) (x12 x13 : Option V), σ = [some (.ref a), some (.ref p), some (.int (0 + (i : Nat))), some (.ref b), some (.ref d), some (.ref m), some (.int (0 + (t : Nat))), some vr, some (.str x), some (.ref t2), some (.ref u), x11, x12, x13, none] ∧
              H25 m = some (.dK met') ∧ MetAt H25 met' ∧ met'.length ≤ 2 * t + e ∧ But m H24 H25) ⟨met, _, _, rfl, hm24, M24, by omega, But.refl _ _⟩ (fun e σ H25 _ ⟨_, _, _, _, _, _, _, o⟩ => ⟨.inl (.inl (o _ _ hl1' l1m)), .inl (.inl (o _ _ hl2' l2m))⟩) ?_ ?_⟩
          · rintro e y σ H25 H26 he ⟨met', x12, x13, rfl, hm25, M25, ml25, o25⟩ ⟨T, y, z, rfl, hT, rfl, hy, hz⟩
            obtain ⟨th, rfl, Th24, thok⟩ := each e y z hy hz
            have sT := same_new hT (.tup [y, V.str (thTxt th)])
            have hm26 := sT _ _ hm25
            have e2 : e < 2 := he
            have Th25 : ThAt H25 y th := Th24.mono fun q zs z => o25 _ _ z (ne_of z hm24 (by intro e; cases e))
            have Th26 := Th25.mono fun q zs z => sT _ _ z
            have M26 : MetAt (upd H25 T (.tup [y, V.str (thTxt th)])) met' := M25.mono fun q zs z => sT _ _ z
            have o26 : But m H24 (upd H25 T (.tup [y, V.str (thTxt th)])) := o25.trans (but_of sT)
            refine ⟨T, _, rfl, .inl (.inl upd_same), rfl, _, _, rfl, _, _, rfl, rfl, ?_⟩
            generalize upd H25 T (.tup [y, V.str (thTxt th)]) = H26 at hm26 Th26 M26 o26 ⊢
            have lay := th_shaped thok
            have same := th_same thok
            refine ⟨_, rfl, m, rfl, .inl ⟨_, .inl hm26⟩, _, rfl, _, rfl, met', .inr (thTxt th), hm26, rfl, by omega, fun v hv => ?_, fun hv => ?_⟩
            · exact ⟨_, rfl, thD th, thD th, (M26.get thok hv).dp, Th26.dp, lay, lay, false, congrArg (fun z => V.bl (!z)) same, iteF ⟨met', _, _, rfl, hm26, M26, by omega, o26⟩⟩
            · have tup : ∀ q zs, H26 q = some (.tup zs) → (upd H26 m (.dK (putK met' (.inr (thTxt th)) y))) q = some (.tup zs) := fun q zs z => by rw [upd_ne (ne_of z hm26 (by intro e; cases e))]; exact z
              have Th27 := Th26.mono tup
              have pl := putK_le met' (.inr (thTxt th)) y
              exact ⟨_, rfl, thD th, thD th, Th27.dp, Th27.dp, lay, lay, false, congrArg (fun z => V.bl (!z)) same, iteF ⟨_, _, _, rfl, upd_same, (M26.mono tup).put Th27 thok, by omega, o26.trans (but_upd _)⟩⟩
          · rintro σ H25 ⟨met', x12, x13, rfl, hm25, M25, ml25, o25⟩
            refine ⟨met', _, _, _, _, _, _, _, _, rfl, o25 _ _ hp24 pm, o25 _ _ hd24 dm, hm25, M25, by have : ml25 = ml25 := rfl; exact Nat.le_trans ml25 (by simp only [List.length_cons, List.length_nil]; omega), ?_⟩
            obtain ⟨bx, by1, bz, hbx, br⟩ := B24.ex
            exact ⟨bx, by1, bz, o25 _ _ hbx mb.symm, br⟩
    · rintro σ H11 ⟨met, x6, x7, x8, x9, x10, x11, x12, x13, rfl, hp11, _⟩
      exact ⟨_, _, _, _, _, _, _, _, _, _, _, _, rfl, hp11⟩
  · rintro σ H2 ⟨x2, x3, x4, x5, x6, x7, x8, x9, x10, x11, x12, x13, rfl, hp2⟩
    exact q _
end
end Rp

namespace Rp
open PySem L2
theorem gn_of {P : Program} {w : World} {K : PySem.W.Frag} {mg : Str → Option Value} {base : Heap} {k : Nat} {f : Addr} {fd : FuncData} {ps : List Str} {sp : Sp} (F : FnOk P w K mg base CX0 k f fd ps sp) : GnOk P w K mg base k f fd ps sp :=
  ⟨F.len, fun A outer s H args us vs Q E _ hr e0 hb r h => F.run A outer s H args us vs Q E hr e0 hb r h⟩
theorem all_mk {l : PySem.W.OpenLaw} {w : World} {K : PySem.W.Frag} {h : Heap} {mg : Str → Option Value} {fa f1 f2 f3 f4 f5 f6 f7 f8 f9 f10 f11 f12 f13 f14 f15 f16 f17 f18 f19 f20 f21 f22 f23 f24 f25 f26 f27 f28 f29 f30 f31 f32 f33 f34 f35 f36 f37 f38 f39 f40 f41 : Addr} (X : K.In h) (G : h.Ns mainGlobals mg) (hfa : mg "law" = some (.ref fa))
    {od1 an1 od2 an2 od3 an3 od4 an4 od5 an5 od6 an6 od7 an7 od8 an8 od9 an9 od10 an10 od11 an11 od12 an12 od13 an13 od14 an14 od15 an15 od16 an16 od17 an17 od18 an18 od19 an19 od20 an20 od21 an21 od22 an22 od23 an23 od24 an24 od25 an25 od26 an26 od27 an27 od28 an28 od29 an29 od30 an30 od31 an31 od32 an32 od33 an33 od34 an34 od35 an35 od36 an36 od37 an37 od38 an38 od39 an39 od40 an40 od41 an41 : Option Addr} {sl1 sl2 sl3 sl4 sl5 sl6 sl7 sl8 sl9 sl10 sl11 sl12 sl13 sl14 sl15 sl16 sl17 sl18 sl19 sl20 sl21 sl22 sl23 sl24 sl25 sl26 sl27 sl28 sl29 sl30 sl31 sl32 sl33 sl34 sl35 sl36 sl37 sl38 sl39 sl40 sl41 : Array (Option Value)} {oc1 kV1 dc1 pm1 cd1 ct1 oc2 kV2 dc2 pm2 cd2 ct2 oc3 kV3 dc3 pm3 cd3 ct3 oc4 kV4 dc4 pm4 cd4 ct4 oc5 kV5 dc5 pm5 cd5 ct5 oc6 kV6 dc6 pm6 cd6 ct6 oc7 kV7 dc7 pm7 cd7 ct7 oc8 kV8 dc8 pm8 cd8 ct8 oc9 kV9 dc9 pm9 cd9 ct9 oc10 kV10 dc10 pm10 cd10 ct10 oc11 kV11 dc11 pm11 cd11 ct11 oc12 kV12 dc12 pm12 cd12 ct12 oc13 kV13 dc13 pm13 cd13 ct13 oc14 kV14 dc14 pm14 cd14 ct14 oc15 kV15 dc15 pm15 cd15 ct15 oc16 kV16 dc16 pm16 cd16 ct16 oc17 kV17 dc17 pm17 cd17 ct17 oc18 kV18 dc18 pm18 cd18 ct18 oc19 kV19 dc19 pm19 cd19 ct19 oc20 kV20 dc20 pm20 cd20 ct20 oc21 kV21 dc21 pm21 cd21 ct21 oc22 kV22 dc22 pm22 cd22 ct22 oc23 kV23 dc23 pm23 cd23 ct23 oc24 kV24 dc24 pm24 cd24 ct24 oc25 kV25 dc25 pm25 cd25 ct25 oc26 kV26 dc26 pm26 cd26 ct26 oc27 kV27 dc27 pm27 cd27 ct27 oc28 kV28 dc28 pm28 cd28 ct28 oc29 kV29 dc29 pm29 cd29 ct29 oc30 kV30 dc30 pm30 cd30 ct30 oc31 kV31 dc31 pm31 cd31 ct31 oc32 kV32 dc32 pm32 cd32 ct32 oc33 kV33 dc33 pm33 cd33 ct33 oc34 kV34 dc34 pm34 cd34 ct34 oc35 kV35 dc35 pm35 cd35 ct35 oc36 kV36 dc36 pm36 cd36 ct36 oc37 kV37 dc37 pm37 cd37 ct37 oc38 kV38 dc38 pm38 cd38 ct38 oc39 kV39 dc39 pm39 cd39 ct39 oc40 kV40 dc40 pm40 cd40 ct40 oc41 kV41 dc41 pm41 cd41 ct41 : Value}
    {fS s1 s2 s3 : Addr} {tk tk2 tk3 tk4 tk5 : Tok} {odS od1_ od2_ od3_ : Option Addr} {nS n1_ n2_ n3_ : Nat} {slS sl1_ sl2_ sl3_ : Array (Option Value)} {t1 t2 t3 t4 t5 t6 : Tok}
    (a1 : PySem.W.nsIn K mainGlobals "is_number" = some (some (.ref f1))) (l1 : K.lookup f1 = some ⟨oc1, od1, .func (PySem.W.fnOf "is_number" "is_number" (defArgs sNumber) (defBody sNumber) (defScope sNumber) .none kV1 dc1 pm1 an1 cd1 ct1), sl1⟩) (c1 : PySem.W.codeIn K cd1 "is_number" = true) (k1 : PySem.W.keepIn K (.ref f1) = true)
    (a2 : PySem.W.nsIn K mainGlobals "is_variable" = some (some (.ref f2))) (l2 : K.lookup f2 = some ⟨oc2, od2, .func (PySem.W.fnOf "is_variable" "is_variable" (defArgs sVariable) (defBody sVariable) (defScope sVariable) .none kV2 dc2 pm2 an2 cd2 ct2), sl2⟩) (c2 : PySem.W.codeIn K cd2 "is_variable" = true) (k2 : PySem.W.keepIn K (.ref f2) = true)
    (a3 : PySem.W.nsIn K mainGlobals "_has_shape" = some (some (.ref f3))) (l3 : K.lookup f3 = some ⟨oc3, od3, .func (PySem.W.fnOf "_has_shape" "_has_shape" (defArgs sShape) (defBody sShape) (defScope sShape) .none kV3 dc3 pm3 an3 cd3 ct3), sl3⟩) (c3 : PySem.W.codeIn K cd3 "_has_shape" = true) (k3 : PySem.W.keepIn K (.ref f3) = true)
    (a4 : PySem.W.nsIn K mainGlobals "is_term" = some (some (.ref f4))) (l4 : K.lookup f4 = some ⟨oc4, od4, .func (PySem.W.fnOf "is_term" "is_term" (defArgs sTerm) (defBody sTerm) (defScope sTerm) .none kV4 dc4 pm4 an4 cd4 ct4), sl4⟩) (c4 : PySem.W.codeIn K cd4 "is_term" = true) (k4 : PySem.W.keepIn K (.ref f4) = true)
    (a5 : PySem.W.nsIn K mainGlobals "_parts" = some (some (.ref f5))) (l5 : K.lookup f5 = some ⟨oc5, od5, .func (PySem.W.fnOf "_parts" "_parts" (defArgs sParts) (defBody sParts) (defScope sParts) .none kV5 dc5 pm5 an5 cd5 ct5), sl5⟩) (c5 : PySem.W.codeIn K cd5 "_parts" = true) (k5 : PySem.W.keepIn K (.ref f5) = true)
    (a6 : PySem.W.nsIn K mainGlobals "inside_out" = some (some (.ref f6))) (l6 : K.lookup f6 = some ⟨oc6, od6, .func (PySem.W.fnOf "inside_out" "inside_out" (defArgs sInside) (defBody sInside) (defScope sInside) .none kV6 dc6 pm6 an6 cd6 ct6), sl6⟩) (c6 : PySem.W.codeIn K cd6 "inside_out" = true) (k6 : PySem.W.keepIn K (.ref f6) = true)
    (a7 : PySem.W.nsIn K mainGlobals "fold" = some (some (.ref f7))) (l7 : K.lookup f7 = some ⟨oc7, od7, .func (PySem.W.fnOf "fold" "fold" (defArgs sFold) (defBody sFold) (defScope sFold) .none kV7 dc7 pm7 an7 cd7 ct7), sl7⟩) (c7 : PySem.W.codeIn K cd7 "fold" = true) (k7 : PySem.W.keepIn K (.ref f7) = true)
    (a8 : PySem.W.nsIn K mainGlobals "is_name" = some (some (.ref f8))) (l8 : K.lookup f8 = some ⟨oc8, od8, .func (PySem.W.fnOf "is_name" "is_name" (defArgs sIsName) (defBody sIsName) (defScope sIsName) .none kV8 dc8 pm8 an8 cd8 ct8), sl8⟩) (c8 : PySem.W.codeIn K cd8 "is_name" = true) (k8 : PySem.W.keepIn K (.ref f8) = true)
    (a9 : PySem.W.nsIn K mainGlobals "is_atom" = some (some (.ref f9))) (l9 : K.lookup f9 = some ⟨oc9, od9, .func (PySem.W.fnOf "is_atom" "is_atom" (defArgs sIsAtom) (defBody sIsAtom) (defScope sIsAtom) .none kV9 dc9 pm9 an9 cd9 ct9), sl9⟩) (c9 : PySem.W.codeIn K cd9 "is_atom" = true) (k9 : PySem.W.keepIn K (.ref f9) = true)
    (a10 : PySem.W.nsIn K mainGlobals "_head_variables" = some (some (.ref f10))) (l10 : K.lookup f10 = some ⟨oc10, od10, .func (PySem.W.fnOf "_head_variables" "_head_variables" (defArgs sHeadVars) (defBody sHeadVars) (defScope sHeadVars) .none kV10 dc10 pm10 an10 cd10 ct10), sl10⟩) (c10 : PySem.W.codeIn K cd10 "_head_variables" = true) (k10 : PySem.W.keepIn K (.ref f10) = true)
    (a11 : PySem.W.nsIn K mainGlobals "_is_head" = some (some (.ref f11))) (l11 : K.lookup f11 = some ⟨oc11, od11, .func (PySem.W.fnOf "_is_head" "_is_head" (defArgs sIsHead) (defBody sIsHead) (defScope sIsHead) .none kV11 dc11 pm11 an11 cd11 ct11), sl11⟩) (c11 : PySem.W.codeIn K cd11 "_is_head" = true) (k11 : PySem.W.keepIn K (.ref f11) = true)
    (a12 : PySem.W.nsIn K mainGlobals "_is_body" = some (some (.ref f12))) (l12 : K.lookup f12 = some ⟨oc12, od12, .func (PySem.W.fnOf "_is_body" "_is_body" (defArgs sIsBody) (defBody sIsBody) (defScope sIsBody) .none kV12 dc12 pm12 an12 cd12 ct12), sl12⟩) (c12 : PySem.W.codeIn K cd12 "_is_body" = true) (k12 : PySem.W.keepIn K (.ref f12) = true)
    (a13 : PySem.W.nsIn K mainGlobals "is_rule" = some (some (.ref f13))) (l13 : K.lookup f13 = some ⟨oc13, od13, .func (PySem.W.fnOf "is_rule" "is_rule" (defArgs sIsRule) (defBody sIsRule) (defScope sIsRule) .none kV13 dc13 pm13 an13 cd13 ct13), sl13⟩) (c13 : PySem.W.codeIn K cd13 "is_rule" = true) (k13 : PySem.W.keepIn K (.ref f13) = true)
    (a14 : PySem.W.nsIn K mainGlobals "_text_of" = some (some (.ref f14))) (l14 : K.lookup f14 = some ⟨oc14, od14, .func (PySem.W.fnOf "_text_of" "_text_of" (defArgs sTextOf) (defBody sTextOf) (defScope sTextOf) .none kV14 dc14 pm14 an14 cd14 ct14), sl14⟩) (c14 : PySem.W.codeIn K cd14 "_text_of" = true) (k14 : PySem.W.keepIn K (.ref f14) = true)
    (a15 : PySem.W.nsIn K mainGlobals "term_text" = some (some (.ref f15))) (l15 : K.lookup f15 = some ⟨oc15, od15, .func (PySem.W.fnOf "term_text" "term_text" (defArgs sTermText) (defBody sTermText) (defScope sTermText) .none kV15 dc15 pm15 an15 cd15 ct15), sl15⟩) (c15 : PySem.W.codeIn K cd15 "term_text" = true) (k15 : PySem.W.keepIn K (.ref f15) = true)
    (a16 : PySem.W.nsIn K mainGlobals "_number_of" = some (some (.ref f16))) (l16 : K.lookup f16 = some ⟨oc16, od16, .func (PySem.W.fnOf "_number_of" "_number_of" (defArgs sNumberOf) (defBody sNumberOf) (defScope sNumberOf) .none kV16 dc16 pm16 an16 cd16 ct16), sl16⟩) (c16 : PySem.W.codeIn K cd16 "_number_of" = true) (k16 : PySem.W.keepIn K (.ref f16) = true)
    (a17 : PySem.W.nsIn K mainGlobals "_from_signs" = some (some (.ref f17))) (l17 : K.lookup f17 = some ⟨oc17, od17, .func (PySem.W.fnOf "_from_signs" "_from_signs" (defArgs sFromSigns) (defBody sFromSigns) (defScope sFromSigns) .none kV17 dc17 pm17 an17 cd17 ct17), sl17⟩) (c17 : PySem.W.codeIn K cd17 "_from_signs" = true) (k17 : PySem.W.keepIn K (.ref f17) = true)
    (a18 : PySem.W.nsIn K mainGlobals "term_or_none" = some (some (.ref f18))) (l18 : K.lookup f18 = some ⟨oc18, od18, .func (PySem.W.fnOf "term_or_none" "term_or_none" (defArgs sTermOrNone) (defBody sTermOrNone) (defScope sTermOrNone) .none kV18 dc18 pm18 an18 cd18 ct18), sl18⟩) (c18 : PySem.W.codeIn K cd18 "term_or_none" = true) (k18 : PySem.W.keepIn K (.ref f18) = true)
    (a19 : PySem.W.nsIn K mainGlobals "atom_text" = some (some (.ref f19))) (l19 : K.lookup f19 = some ⟨oc19, od19, .func (PySem.W.fnOf "atom_text" "atom_text" (defArgs sAtomText) (defBody sAtomText) (defScope sAtomText) .none kV19 dc19 pm19 an19 cd19 ct19), sl19⟩) (c19 : PySem.W.codeIn K cd19 "atom_text" = true) (k19 : PySem.W.keepIn K (.ref f19) = true)
    (a20 : PySem.W.nsIn K mainGlobals "atom_or_none" = some (some (.ref f20))) (l20 : K.lookup f20 = some ⟨oc20, od20, .func (PySem.W.fnOf "atom_or_none" "atom_or_none" (defArgs sAtomOr) (defBody sAtomOr) (defScope sAtomOr) .none kV20 dc20 pm20 an20 cd20 ct20), sl20⟩) (c20 : PySem.W.codeIn K cd20 "atom_or_none" = true) (k20 : PySem.W.keepIn K (.ref f20) = true)
    (a21 : PySem.W.nsIn K mainGlobals "atom_in" = some (some (.ref f21))) (l21 : K.lookup f21 = some ⟨oc21, od21, .func (PySem.W.fnOf "atom_in" "atom_in" (defArgs sAtomIn) (defBody sAtomIn) (defScope sAtomIn) .none kV21 dc21 pm21 an21 cd21 ct21), sl21⟩) (c21 : PySem.W.codeIn K cd21 "atom_in" = true) (k21 : PySem.W.keepIn K (.ref f21) = true)
    (a22 : PySem.W.nsIn K mainGlobals "atoms_text" = some (some (.ref f22))) (l22 : K.lookup f22 = some ⟨oc22, od22, .func (PySem.W.fnOf "atoms_text" "atoms_text" (defArgs sAtomsText) (defBody sAtomsText) (defScope sAtomsText) .none kV22 dc22 pm22 an22 cd22 ct22), sl22⟩) (c22 : PySem.W.codeIn K cd22 "atoms_text" = true) (k22 : PySem.W.keepIn K (.ref f22) = true)
    (a23 : PySem.W.nsIn K mainGlobals "atoms_or_nones" = some (some (.ref f23))) (l23 : K.lookup f23 = some ⟨oc23, od23, .func (PySem.W.fnOf "atoms_or_nones" "atoms_or_nones" (defArgs sAtomsOr) (defBody sAtomsOr) (defScope sAtomsOr) .none kV23 dc23 pm23 an23 cd23 ct23), sl23⟩) (c23 : PySem.W.codeIn K cd23 "atoms_or_nones" = true) (k23 : PySem.W.keepIn K (.ref f23) = true)
    (a24 : PySem.W.nsIn K mainGlobals "rule_text" = some (some (.ref f24))) (l24 : K.lookup f24 = some ⟨oc24, od24, .func (PySem.W.fnOf "rule_text" "rule_text" (defArgs sRuleText) (defBody sRuleText) (defScope sRuleText) .none kV24 dc24 pm24 an24 cd24 ct24), sl24⟩) (c24 : PySem.W.codeIn K cd24 "rule_text" = true) (k24 : PySem.W.keepIn K (.ref f24) = true)
    (a25 : PySem.W.nsIn K mainGlobals "rule_or_none" = some (some (.ref f25))) (l25 : K.lookup f25 = some ⟨oc25, od25, .func (PySem.W.fnOf "rule_or_none" "rule_or_none" (defArgs sRuleOr) (defBody sRuleOr) (defScope sRuleOr) .none kV25 dc25 pm25 an25 cd25 ct25), sl25⟩) (c25 : PySem.W.codeIn K cd25 "rule_or_none" = true) (k25 : PySem.W.keepIn K (.ref f25) = true)
    (a26 : PySem.W.nsIn K mainGlobals "rule_in" = some (some (.ref f26))) (l26 : K.lookup f26 = some ⟨oc26, od26, .func (PySem.W.fnOf "rule_in" "rule_in" (defArgs sRuleIn) (defBody sRuleIn) (defScope sRuleIn) .none kV26 dc26 pm26 an26 cd26 ct26), sl26⟩) (c26 : PySem.W.codeIn K cd26 "rule_in" = true) (k26 : PySem.W.keepIn K (.ref f26) = true)
    (a27 : PySem.W.nsIn K mainGlobals "_law_box" = some (some (.ref f27))) (l27 : K.lookup f27 = some ⟨oc27, od27, .func (PySem.W.fnOf "_law_box" "_law_box" (defArgs sBox) (defBody sBox) (defScope sBox) .none kV27 dc27 pm27 an27 cd27 ct27), sl27⟩) (c27 : PySem.W.codeIn K cd27 "_law_box" = true) (k27 : PySem.W.keepIn K (.ref f27) = true)
    (a28 : PySem.W.nsIn K mainGlobals "_law_take" = some (some (.ref f28))) (l28 : K.lookup f28 = some ⟨oc28, od28, .func (PySem.W.fnOf "_law_take" "_law_take" (defArgs sTake) (defBody sTake) (defScope sTake) .none kV28 dc28 pm28 an28 cd28 ct28), sl28⟩) (c28 : PySem.W.codeIn K cd28 "_law_take" = true) (k28 : PySem.W.keepIn K (.ref f28) = true)
    (a29 : PySem.W.nsIn K mainGlobals "_law_pick" = some (some (.ref f29))) (l29 : K.lookup f29 = some ⟨oc29, od29, .func (PySem.W.fnOf "_law_pick" "_law_pick" (defArgs sPick) (defBody sPick) (defScope sPick) .none kV29 dc29 pm29 an29 cd29 ct29), sl29⟩) (c29 : PySem.W.codeIn K cd29 "_law_pick" = true) (k29 : PySem.W.keepIn K (.ref f29) = true)
    (a30 : PySem.W.nsIn K mainGlobals "_law_folded" = some (some (.ref f30))) (l30 : K.lookup f30 = some ⟨oc30, od30, .func (PySem.W.fnOf "_law_folded" "_law_folded" (defArgs sFolded) (defBody sFolded) (defScope sFolded) .none kV30 dc30 pm30 an30 cd30 ct30), sl30⟩) (c30 : PySem.W.codeIn K cd30 "_law_folded" = true) (k30 : PySem.W.keepIn K (.ref f30) = true)
    (a31 : PySem.W.nsIn K mainGlobals "_law_same" = some (some (.ref f31))) (l31 : K.lookup f31 = some ⟨oc31, od31, .func (PySem.W.fnOf "_law_same" "_law_same" (defArgs sSame) (defBody sSame) (defScope sSame) .none kV31 dc31 pm31 an31 cd31 ct31), sl31⟩) (c31 : PySem.W.codeIn K cd31 "_law_same" = true) (k31 : PySem.W.keepIn K (.ref f31) = true)
    (a32 : PySem.W.nsIn K mainGlobals "_law_words" = some (some (.ref f32))) (l32 : K.lookup f32 = some ⟨oc32, od32, .func (PySem.W.fnOf "_law_words" "_law_words" (defArgs sWords) (defBody sWords) (defScope sWords) .none kV32 dc32 pm32 an32 cd32 ct32), sl32⟩) (c32 : PySem.W.codeIn K cd32 "_law_words" = true) (k32 : PySem.W.keepIn K (.ref f32) = true)
    (a33 : PySem.W.nsIn K mainGlobals "_law_variable" = some (some (.ref f33))) (l33 : K.lookup f33 = some ⟨oc33, od33, .func (PySem.W.fnOf "_law_variable" "_law_variable" (defArgs sVariableL) (defBody sVariableL) (defScope sVariableL) .none kV33 dc33 pm33 an33 cd33 ct33), sl33⟩) (c33 : PySem.W.codeIn K cd33 "_law_variable" = true) (k33 : PySem.W.keepIn K (.ref f33) = true)
    (a34 : PySem.W.nsIn K mainGlobals "_law_term" = some (some (.ref f34))) (l34 : K.lookup f34 = some ⟨oc34, od34, .func (PySem.W.fnOf "_law_term" "_law_term" (defArgs sTermL) (defBody sTermL) (defScope sTermL) .none kV34 dc34 pm34 an34 cd34 ct34), sl34⟩) (c34 : PySem.W.codeIn K cd34 "_law_term" = true) (k34 : PySem.W.keepIn K (.ref f34) = true)
    (a35 : PySem.W.nsIn K mainGlobals "_law_counts" = some (some (.ref f35))) (l35 : K.lookup f35 = some ⟨oc35, od35, .func (PySem.W.fnOf "_law_counts" "_law_counts" (defArgs sCounts) (defBody sCounts) (defScope sCounts) .none kV35 dc35 pm35 an35 cd35 ct35), sl35⟩) (c35 : PySem.W.codeIn K cd35 "_law_counts" = true) (k35 : PySem.W.keepIn K (.ref f35) = true)
    (a36 : PySem.W.nsIn K mainGlobals "_law_head" = some (some (.ref f36))) (l36 : K.lookup f36 = some ⟨oc36, od36, .func (PySem.W.fnOf "_law_head" "_law_head" (defArgs sHead) (defBody sHead) (defScope sHead) .none kV36 dc36 pm36 an36 cd36 ct36), sl36⟩) (c36 : PySem.W.codeIn K cd36 "_law_head" = true) (k36 : PySem.W.keepIn K (.ref f36) = true)
    (a37 : PySem.W.nsIn K mainGlobals "_law_rule" = some (some (.ref f37))) (l37 : K.lookup f37 = some ⟨oc37, od37, .func (PySem.W.fnOf "_law_rule" "_law_rule" (defArgs sRule) (defBody sRule) (defScope sRule) .none kV37 dc37 pm37 an37 cd37 ct37), sl37⟩) (c37 : PySem.W.codeIn K cd37 "_law_rule" = true) (k37 : PySem.W.keepIn K (.ref f37) = true)
    (a38 : PySem.W.nsIn K mainGlobals "_law_term_text" = some (some (.ref f38))) (l38 : K.lookup f38 = some ⟨oc38, od38, .func (PySem.W.fnOf "_law_term_text" "_law_term_text" (defArgs sText) (defBody sText) (defScope sText) .none kV38 dc38 pm38 an38 cd38 ct38), sl38⟩) (c38 : PySem.W.codeIn K cd38 "_law_term_text" = true) (k38 : PySem.W.keepIn K (.ref f38) = true)
    (a39 : PySem.W.nsIn K mainGlobals "_law_atom_text" = some (some (.ref f39))) (l39 : K.lookup f39 = some ⟨oc39, od39, .func (PySem.W.fnOf "_law_atom_text" "_law_atom_text" (defArgs sLawAT) (defBody sLawAT) (defScope sLawAT) .none kV39 dc39 pm39 an39 cd39 ct39), sl39⟩) (c39 : PySem.W.codeIn K cd39 "_law_atom_text" = true) (k39 : PySem.W.keepIn K (.ref f39) = true)
    (a40 : PySem.W.nsIn K mainGlobals "_law_rule_text" = some (some (.ref f40))) (l40 : K.lookup f40 = some ⟨oc40, od40, .func (PySem.W.fnOf "_law_rule_text" "_law_rule_text" (defArgs sLawRT) (defBody sLawRT) (defScope sLawRT) .none kV40 dc40 pm40 an40 cd40 ct40), sl40⟩) (c40 : PySem.W.codeIn K cd40 "_law_rule_text" = true) (k40 : PySem.W.keepIn K (.ref f40) = true)
    (a41 : PySem.W.nsIn K mainGlobals "law" = some (some (.ref f41))) (l41 : K.lookup f41 = some ⟨oc41, od41, .func (PySem.W.fnOf "law" "law" (defArgs sLaw) (defBody sLaw) (defScope sLaw) .none kV41 dc41 pm41 an41 cd41 ct41), sl41⟩) (c41 : PySem.W.codeIn K cd41 "law" = true) (k41 : PySem.W.keepIn K (.ref f41) = true)
    (z1 : PySem.W.nsIn K mainGlobals "isinstance" = some none)
    (z2 : PySem.W.nsIn K mainGlobals "int" = some none)
    (z3 : PySem.W.nsIn K mainGlobals "len" = some none)
    (z4 : PySem.W.nsIn K mainGlobals "sorted" = some none)
    (z5 : PySem.W.nsIn K mainGlobals "list" = some none)
    (z6 : PySem.W.nsIn K mainGlobals "tuple" = some none)
    (z7 : PySem.W.nsIn K mainGlobals "all" = some none)
    (z8 : PySem.W.nsIn K mainGlobals "zip" = some none)
    (z9 : PySem.W.nsIn K mainGlobals "str" = some none)
    (z10 : PySem.W.nsIn K mainGlobals "bool" = some none)
    (z11 : PySem.W.nsIn K mainGlobals "range" = some none)
    (z12 : PySem.W.nsIn K mainGlobals "dict" = some none)
    (z13 : PySem.W.nsIn K mainGlobals "abs" = some none)
    (z14 : PySem.W.nsIn K mainGlobals "enumerate" = some none)
    (z15 : PySem.W.nsIn K mainGlobals "reversed" = some none)
    (xV : PySem.W.nsIn K mainGlobals "LAST_VARIABLE" = some (some (.int 99 tk)))
    (xM : PySem.W.nsIn K mainGlobals "MOST_SIGNS" = some (some (.int 200 tk2)))
    (xS : PySem.W.nsIn K mainGlobals "SHAPES" = some (some (.ref fS)))
    (xL : K.lookup fS = some ⟨.type "tuple", odS, .seq #[.ref s1, .ref s2, .ref s3] nS, slS⟩)
    (x1 : K.lookup s1 = some ⟨.type "tuple", od1_, .seq #[.str "0" t1, .int 1 t2] n1_, sl1_⟩)
    (x2 : K.lookup s2 = some ⟨.type "tuple", od2_, .seq #[.str "s" t3, .int 2 t4] n2_, sl2_⟩)
    (x3 : K.lookup s3 = some ⟨.type "tuple", od3_, .seq #[.str "f" t5, .int 3 t6] n3_, sl3_⟩)
    (xLe : PySem.W.nsIn K mainGlobals "LETTERS" = some (some (.str "abcdefghijklmnopqrstuvwxyz" tk3)))
    (xML : PySem.W.nsIn K mainGlobals "MOST_LETTERS" = some (some (.int 6 tk4)))
    (xMB : PySem.W.nsIn K mainGlobals "MOST_BODY" = some (some (.int 3 tk5)))
    : ∃ fd : FuncData, (∀ (s : Shared) (v : Value), BindsTo s fd ⟨[v], []⟩ [("_law_script", v)]) ∧ ∀ base : Heap, K.In base → base.Ns mainGlobals mg → GnOk l.prog w K mg base 63 fa fd ["_law_script"] (spLaw K) := by
  have e := hfa.symm.trans (PySem.W.mg_of X G a41)
  cases e
  have F1 := fun_mk (st := sNumber) l1 c1 k1
  have b1 := F1.binds (ps := ["thing"]) fun _ _ _ _ _ _ us hl => match us, hl with | [_], _ => rfl
  have m1 := PySem.W.mg_of X G a1
  have F2 := fun_mk (st := sVariable) l2 c2 k2
  have b2 := F2.binds (ps := ["thing"]) fun _ _ _ _ _ _ us hl => match us, hl with | [_], _ => rfl
  have m2 := PySem.W.mg_of X G a2
  have F3 := fun_mk (st := sShape) l3 c3 k3
  have b3 := F3.binds (ps := ["thing"]) fun _ _ _ _ _ _ us hl => match us, hl with | [_], _ => rfl
  have m3 := PySem.W.mg_of X G a3
  have F4 := fun_mk (st := sTerm) l4 c4 k4
  have b4 := F4.binds (ps := ["thing"]) fun _ _ _ _ _ _ us hl => match us, hl with | [_], _ => rfl
  have m4 := PySem.W.mg_of X G a4
  have F5 := fun_mk (st := sParts) l5 c5 k5
  have b5 := F5.binds (ps := ["term"]) fun _ _ _ _ _ _ us hl => match us, hl with | [_], _ => rfl
  have m5 := PySem.W.mg_of X G a5
  have F6 := fun_mk (st := sInside) l6 c6 k6
  have b6 := F6.binds (ps := ["term"]) fun _ _ _ _ _ _ us hl => match us, hl with | [_], _ => rfl
  have m6 := PySem.W.mg_of X G a6
  have F7 := fun_mk (st := sFold) l7 c7 k7
  have b7 := F7.binds (ps := ["term", "made_of"]) fun _ _ _ _ _ _ us hl => match us, hl with | [_, _], _ => rfl
  have m7 := PySem.W.mg_of X G a7
  have F8 := fun_mk (st := sIsName) l8 c8 k8
  have b8 := F8.binds (ps := ["thing"]) fun _ _ _ _ _ _ us hl => match us, hl with | [_], _ => rfl
  have m8 := PySem.W.mg_of X G a8
  have F9 := fun_mk (st := sIsAtom) l9 c9 k9
  have b9 := F9.binds (ps := ["thing"]) fun _ _ _ _ _ _ us hl => match us, hl with | [_], _ => rfl
  have m9 := PySem.W.mg_of X G a9
  have F10 := fun_mk (st := sHeadVars) l10 c10 k10
  have b10 := F10.binds (ps := ["head"]) fun _ _ _ _ _ _ us hl => match us, hl with | [_], _ => rfl
  have m10 := PySem.W.mg_of X G a10
  have F11 := fun_mk (st := sIsHead) l11 c11 k11
  have b11 := F11.binds (ps := ["thing"]) fun _ _ _ _ _ _ us hl => match us, hl with | [_], _ => rfl
  have m11 := PySem.W.mg_of X G a11
  have F12 := fun_mk (st := sIsBody) l12 c12 k12
  have b12 := F12.binds (ps := ["thing", "known"]) fun _ _ _ _ _ _ us hl => match us, hl with | [_, _], _ => rfl
  have m12 := PySem.W.mg_of X G a12
  have F13 := fun_mk (st := sIsRule) l13 c13 k13
  have b13 := F13.binds (ps := ["thing"]) fun _ _ _ _ _ _ us hl => match us, hl with | [_], _ => rfl
  have m13 := PySem.W.mg_of X G a13
  have F14 := fun_mk (st := sTextOf) l14 c14 k14
  have b14 := F14.binds (ps := ["part", "texts"]) fun _ _ _ _ _ _ us hl => match us, hl with | [_, _], _ => rfl
  have m14 := PySem.W.mg_of X G a14
  have F15 := fun_mk (st := sTermText) l15 c15 k15
  have b15 := F15.binds (ps := ["term"]) fun _ _ _ _ _ _ us hl => match us, hl with | [_], _ => rfl
  have m15 := PySem.W.mg_of X G a15
  have F16 := fun_mk (st := sNumberOf) l16 c16 k16
  have b16 := F16.binds (ps := ["sign"]) fun _ _ _ _ _ _ us hl => match us, hl with | [_], _ => rfl
  have m16 := PySem.W.mg_of X G a16
  have F17 := fun_mk (st := sFromSigns) l17 c17 k17
  have b17 := F17.binds (ps := ["signs"]) fun _ _ _ _ _ _ us hl => match us, hl with | [_], _ => rfl
  have m17 := PySem.W.mg_of X G a17
  have F18 := fun_mk (st := sTermOrNone) l18 c18 k18
  have b18 := F18.binds (ps := ["text"]) fun _ _ _ _ _ _ us hl => match us, hl with | [_], _ => rfl
  have m18 := PySem.W.mg_of X G a18
  have F19 := fun_mk (st := sAtomText) l19 c19 k19
  have b19 := F19.binds (ps := ["atom"]) fun _ _ _ _ _ _ us hl => match us, hl with | [_], _ => rfl
  have m19 := PySem.W.mg_of X G a19
  have F20 := fun_mk (st := sAtomOr) l20 c20 k20
  have b20 := F20.binds (ps := ["text"]) fun _ _ _ _ _ _ us hl => match us, hl with | [_], _ => rfl
  have m20 := PySem.W.mg_of X G a20
  have F21 := fun_mk (st := sAtomIn) l21 c21 k21
  have b21 := F21.binds (ps := ["text"]) fun _ _ _ _ _ _ us hl => match us, hl with | [_], _ => rfl
  have m21 := PySem.W.mg_of X G a21
  have F22 := fun_mk (st := sAtomsText) l22 c22 k22
  have b22 := F22.binds (ps := ["atoms"]) fun _ _ _ _ _ _ us hl => match us, hl with | [_], _ => rfl
  have m22 := PySem.W.mg_of X G a22
  have F23 := fun_mk (st := sAtomsOr) l23 c23 k23
  have b23 := F23.binds (ps := ["text"]) fun _ _ _ _ _ _ us hl => match us, hl with | [_], _ => rfl
  have m23 := PySem.W.mg_of X G a23
  have F24 := fun_mk (st := sRuleText) l24 c24 k24
  have b24 := F24.binds (ps := ["rule"]) fun _ _ _ _ _ _ us hl => match us, hl with | [_], _ => rfl
  have m24 := PySem.W.mg_of X G a24
  have F25 := fun_mk (st := sRuleOr) l25 c25 k25
  have b25 := F25.binds (ps := ["text"]) fun _ _ _ _ _ _ us hl => match us, hl with | [_], _ => rfl
  have m25 := PySem.W.mg_of X G a25
  have F26 := fun_mk (st := sRuleIn) l26 c26 k26
  have b26 := F26.binds (ps := ["text"]) fun _ _ _ _ _ _ us hl => match us, hl with | [_], _ => rfl
  have m26 := PySem.W.mg_of X G a26
  have F27 := fun_mk (st := sBox) l27 c27 k27
  have b27 := F27.binds (ps := ["_law_script", "_law_k"]) fun _ _ _ _ _ _ us hl => match us, hl with | [_, _], _ => rfl
  have m27 := PySem.W.mg_of X G a27
  have F28 := fun_mk (st := sTake) l28 c28 k28
  have b28 := F28.binds (ps := ["_law_box_here", "_law_top"]) fun _ _ _ _ _ _ us hl => match us, hl with | [_, _], _ => rfl
  have m28 := PySem.W.mg_of X G a28
  have F29 := fun_mk (st := sPick) l29 c29 k29
  have b29 := F29.binds (ps := ["_law_box_here", "_law_things"]) fun _ _ _ _ _ _ us hl => match us, hl with | [_, _], _ => rfl
  have m29 := PySem.W.mg_of X G a29
  have F30 := fun_mk (st := sFolded) l30 c30 k30
  have b30 := F30.binds (ps := ["_law_script", "_law_count"]) fun _ _ _ _ _ _ us hl => match us, hl with | [_, _], _ => rfl
  have m30 := PySem.W.mg_of X G a30
  have F31 := fun_mk (st := sSame) l31 c31 k31
  have b31 := F31.binds (ps := ["_law_found", "_law_due"]) fun _ _ _ _ _ _ us hl => match us, hl with | [_, _], _ => rfl
  have m31 := PySem.W.mg_of X G a31
  have F32 := fun_mk (st := sWords) l32 c32 k32
  have b32 := F32.binds (ps := ["_law_box_here", "_law_count"]) fun _ _ _ _ _ _ us hl => match us, hl with | [_, _], _ => rfl
  have m32 := PySem.W.mg_of X G a32
  have F33 := fun_mk (st := sVariableL) l33 c33 k33
  have b33 := F33.binds (ps := ["_law_box_here"]) fun _ _ _ _ _ _ us hl => match us, hl with | [_], _ => rfl
  have m33 := PySem.W.mg_of X G a33
  have F34 := fun_mk (st := sTermL) l34 c34 k34
  have b34 := F34.binds (ps := ["_law_box_here", "_law_deep"]) fun _ _ _ _ _ _ us hl => match us, hl with | [_, _], _ => rfl
  have m34 := PySem.W.mg_of X G a34
  have F35 := fun_mk (st := sCounts) l35 c35 k35
  have b35 := F35.binds (ps := ["_law_box_here", "_law_words_here"]) fun _ _ _ _ _ _ us hl => match us, hl with | [_, _], _ => rfl
  have m35 := PySem.W.mg_of X G a35
  have F36 := fun_mk (st := sHead) l36 c36 k36
  have b36 := F36.binds (ps := ["_law_box_here", "_law_word", "_law_many"]) fun _ _ _ _ _ _ us hl => match us, hl with | [_, _, _], _ => rfl
  have m36 := PySem.W.mg_of X G a36
  have F37 := fun_mk (st := sRule) l37 c37 k37
  have b37 := F37.binds (ps := ["_law_box_here", "_law_counts_here"]) fun _ _ _ _ _ _ us hl => match us, hl with | [_, _], _ => rfl
  have m37 := PySem.W.mg_of X G a37
  have F38 := fun_mk (st := sText) l38 c38 k38
  have b38 := F38.binds (ps := ["_law_term_here"]) fun _ _ _ _ _ _ us hl => match us, hl with | [_], _ => rfl
  have m38 := PySem.W.mg_of X G a38
  have F39 := fun_mk (st := sLawAT) l39 c39 k39
  have b39 := F39.binds (ps := ["_law_atom"]) fun _ _ _ _ _ _ us hl => match us, hl with | [_], _ => rfl
  have m39 := PySem.W.mg_of X G a39
  have F40 := fun_mk (st := sLawRT) l40 c40 k40
  have b40 := F40.binds (ps := ["_law_rule_here"]) fun _ _ _ _ _ _ us hl => match us, hl with | [_], _ => rfl
  have m40 := PySem.W.mg_of X G a40
  have F41 := fun_mk (st := sLaw) l41 c41 k41
  have y1 := PySem.W.mg_none_of X G z1
  have y2 := PySem.W.mg_none_of X G z2
  have y3 := PySem.W.mg_none_of X G z3
  have y4 := PySem.W.mg_none_of X G z4
  have y5 := PySem.W.mg_none_of X G z5
  have y6 := PySem.W.mg_none_of X G z6
  have y7 := PySem.W.mg_none_of X G z7
  have y8 := PySem.W.mg_none_of X G z8
  have y9 := PySem.W.mg_none_of X G z9
  have y10 := PySem.W.mg_none_of X G z10
  have y11 := PySem.W.mg_none_of X G z11
  have y12 := PySem.W.mg_none_of X G z12
  have y13 := PySem.W.mg_none_of X G z13
  have y14 := PySem.W.mg_none_of X G z14
  have y15 := PySem.W.mg_none_of X G z15
  refine ⟨PySem.W.fnOf "law" "law" (defArgs sLaw) (defBody sLaw) (defScope sLaw) .none kV41 dc41 pm41 an41 cd41 ct41, fun s v => .of_eq rfl, fun base _ _ => ?_⟩
  have c0 : ∀ H, SqT K H fS [V.ref s1, .ref s2, .ref s3] := fun H => .inr ⟨_, _, _, xL, rfl, rfl, (by show 3 ≤ sizeLine; decide), .cons rfl (.cons rfl (.cons rfl .nil))⟩
  have c1 : ∀ H, SqT K H s1 [V.str "0", .int 1] := fun H => .inr ⟨_, _, _, x1, rfl, rfl, (by show 2 ≤ sizeLine; decide), .cons ⟨_, rfl⟩ (.cons ⟨_, rfl⟩ .nil)⟩
  have c2 : ∀ H, SqT K H s2 [V.str "s", .int 2] := fun H => .inr ⟨_, _, _, x2, rfl, rfl, (by show 2 ≤ sizeLine; decide), .cons ⟨_, rfl⟩ (.cons ⟨_, rfl⟩ .nil)⟩
  have c3 : ∀ H, SqT K H s3 [V.str "f", .int 3] := fun H => .inr ⟨_, _, _, x3, rfl, rfl, (by show 2 ≤ sizeLine; decide), .cons ⟨_, rfl⟩ (.cons ⟨_, rfl⟩ .nil)⟩
  have hS : ∀ H, Dp K H (.ref fS) shapesD := fun H =>
    .tup (c0 H) (.cons (.tup (c1 H) (.cons (.str _) (.cons (.int _) .nil))) (.cons (.tup (c2 H) (.cons (.str _) (.cons (.int _) .nil))) (.cons (.tup (c3 H) (.cons (.str _) (.cons (.int _) .nil))) .nil)))
  have M : SameG mg := ⟨y1, y5, y6, y3, y7, y8, y9, y2, y10⟩
  have GN := ok_number (P := l.prog) (w := w) (base := base) F1 M
  have GVa := ok_variable F2 GN k1 b1 m1 (PySem.W.mg_of X G xV)
  have GSh := ok_shape (P := l.prog) (w := w) (base := base) F3 M (PySem.W.mg_of X G xS) hS
  have GTm := ok_term F4 GSh k3 b3 m3 GVa k2 b2 m2
  have GPa := ok_parts (P := l.prog) (w := w) (base := base) F5 y1 y2
  have GI := ok_inside (P := l.prog) (w := w) (base := base) F6 F5 b5 m5 y1 y2
  have GTO := ok_textof (P := l.prog) (w := w) (base := base) F14 y1 y2
  have GFo := ok_fold F7 GI k6 b6 m6 GPa k5 b5 m5 GTO k14 b14 y3
  have GTx := ok_termtext F15 GFo k7 b7 m7 m14
  have GNo := ok_numberof (P := l.prog) (w := w) (base := base) F16 y3 y2
  have GFs := ok_fromsigns F17 GNo k16 b16 m16 y3 y15
  have GOr := ok_termor F18 GFs k17 b17 m17 GTx k15 b15 m15 y3 (PySem.W.mg_of X G xM)
  have GNm := ok_isname (P := l.prog) (w := w) (base := base) F8 M (PySem.W.mg_of X G xLe) (PySem.W.mg_of X G xML)
  have GIa := ok_isatom F9 GNm k8 b8 m8 GTm k4 b4 m4 M
  have GAt := ok_atomtext F19 GTx k15 b15 m15
  have GAo := ok_atomor F20 GOr k18 b18 m18 GIa k9 b9 m9
  have GAi := ok_atomin F21 GAo k20 b20 m20
  have GHv := ok_headvars (P := l.prog) (w := w) (base := base) F10 M
  have GIh := ok_ishead F11 GIa k9 b9 m9 GHv k10 b10 m10 y5 y11 y3
  have GIb := ok_isbody F12 GIa k9 b9 m9 (PySem.W.mg_of X G xMB) M
  have GIr := ok_isrule F13 GIh k11 b11 m11 GHv k10 b10 m10 GIb k12 b12 m12 M
  have GAs := ok_atomstext F22 GAt k19 b19 m19
  have GRt := ok_ruletext F24 GAt k19 b19 m19 GAs k22 b22 m22
  have GAn := ok_atomsor F23 GAo k20 b20 m20 y6
  have GRo := ok_ruleor F25 GAo k20 b20 m20 GAn k23 b23 m23 GIr k13 b13 m13
  have GRi := ok_rulein F26 GRo k25 b25 m25
  have GS := same_ok (P := l.prog) (w := w) (base := base) F31 b31 m31 M 61
  have GTk := ok_take (P := l.prog) (w := w) (mg := mg) (base := base) F28
  have GPk := ok_pick (P := l.prog) (w := w) (base := base) F29 F28 b28 m28 y3
  have GLv := ok_lvar (P := l.prog) (w := w) (base := base) F33 F28 b28 m28
  have GLt := lterm_ok F34 b34 m34 F28 b28 m28 GLv k33 b33 m33 5
  have GHd := ok_lhead (P := l.prog) (w := w) (base := base) F36 F28 b28 m28 y11 y6
  have GRu := ok_rule F37 F28 b28 m28 GPk k29 b29 m29 GHd k36 b36 m36 y4 y11 y6
  have GLx := ltext5 (P := l.prog) (w := w) (base := base) F38 b38 m38 M
  have GLa := ok_latom F39 GLx k38 b38 m38
  have GLr := ok_lrule F40 GLa k39 b39 m39
  have GFd := ok_folded (P := l.prog) (w := w) (base := base) F30 y5 y14
  have GWd := ok_words (P := l.prog) (w := w) (base := base) F32 F28 b28 m28 y11 y3
  have GCt := ok_counts (P := l.prog) (w := w) (base := base) F35 F28 b28 m28 y12
  have GBx := ok_box (P := l.prog) (w := w) (base := base) F27 y3 y13 y2
  exact gn_of (ok_law F41 GFd k30 b30 m30 GBx k27 b27 m27 GTk k28 b28 m28 GPk k29 b29 m29 GWd k32 b32 m32 GCt k35 b35 m35 GRu k37 b37 m37 GLt k34 b34 m34 GRt k24 b24 m24 GAt k19 b19 m19 GS k31 b31 m31 GLr k40 b40 m40 GLa k39 b39 m39 GRi k26 b26 m26 GAi k21 b21 m21 y11 y3 y4 y6 y8)
theorem walk {l : PySem.W.OpenLaw} {q : Program} {loose : List Str} {XP : (Str → Option Value) → Heap → Prop} {YP : World → Heap → Prop} {d : DefRec} {K : Params → PySem.W.Frag} (hn : l.most = some 63) (hdf : d.params.defaults = [])
    (hY : ∀ (w : World) (h : Heap), YP w h → (K w.params).In h)
    (F : ∀ (w : World) (mg : Str → Option Value) (fa : Addr) (h : Heap), (K w.params).In h → h.Ns mainGlobals mg → mg d.name = some (.ref fa) →
      ∃ fd : FuncData, (∀ (s : Shared) (u : Value), BindsTo s fd ⟨[u], []⟩ [("_law_script", u)]) ∧ ∀ base : Heap, (K w.params).In base → base.Ns mainGlobals mg → GnOk l.prog w (K w.params) mg base 63 fa fd ["_law_script"] (spLaw (K w.params))) :
    PySem.W.WalkO q loose XP YP l.row.toRowW d [] (fun f vs => PySem.call f vs) :=
  walk_ofG (n := 63) (k := 63) (x := "_law_script") (sp := spLaw) hn (by decide) hdf ⟨rfl, by decide, by decide⟩ hY F (fun _ _ a ns hl _ hS => ⟨a, ns, rfl, hS, hl, fun _ => rfl⟩)
end Rp
open PySem PySem.W PyProof.Rows
set_option maxRecDepth 100000 in
set_option maxHeartbeats 0 in
theorem PySem.Challenge.cw_ringproofs_k11_rules_as_texts_holds : PySem.Challenge.rw_ringproofs_k11_rules_as_texts.Holds := by
  w_on; o_law; k_head; (case hw => w_witness2)
  k_fill
  refine Rp.walk (l := PySem.Challenge.rw_ringproofs_k11_rules_as_texts) rfl rfl (fun w h Y => PySem.W.kIn_of Y) ?F
  case F =>
    intro w mg fa h KX G hmg
    refine' Rp.all_mk KX G hmg ?a1 ?l1 ?c1 ?k1 ?a2 ?l2 ?c2 ?k2 ?a3 ?l3 ?c3 ?k3 ?a4 ?l4 ?c4 ?k4 ?a5 ?l5 ?c5 ?k5 ?a6 ?l6 ?c6 ?k6 ?a7 ?l7 ?c7 ?k7 ?a8 ?l8 ?c8 ?k8 ?a9 ?l9 ?c9 ?k9 ?a10 ?l10 ?c10 ?k10 ?a11 ?l11 ?c11 ?k11 ?a12 ?l12 ?c12 ?k12 ?a13 ?l13 ?c13 ?k13 ?a14 ?l14 ?c14 ?k14 ?a15 ?l15 ?c15 ?k15 ?a16 ?l16 ?c16 ?k16 ?a17 ?l17 ?c17 ?k17 ?a18 ?l18 ?c18 ?k18 ?a19 ?l19 ?c19 ?k19 ?a20 ?l20 ?c20 ?k20 ?a21 ?l21 ?c21 ?k21 ?a22 ?l22 ?c22 ?k22 ?a23 ?l23 ?c23 ?k23 ?a24 ?l24 ?c24 ?k24 ?a25 ?l25 ?c25 ?k25 ?a26 ?l26 ?c26 ?k26 ?a27 ?l27 ?c27 ?k27 ?a28 ?l28 ?c28 ?k28 ?a29 ?l29 ?c29 ?k29 ?a30 ?l30 ?c30 ?k30 ?a31 ?l31 ?c31 ?k31 ?a32 ?l32 ?c32 ?k32 ?a33 ?l33 ?c33 ?k33 ?a34 ?l34 ?c34 ?k34 ?a35 ?l35 ?c35 ?k35 ?a36 ?l36 ?c36 ?k36 ?a37 ?l37 ?c37 ?k37 ?a38 ?l38 ?c38 ?k38 ?a39 ?l39 ?c39 ?k39 ?a40 ?l40 ?c40 ?k40 ?a41 ?l41 ?c41 ?k41 ?z1 ?z2 ?z3 ?z4 ?z5 ?z6 ?z7 ?z8 ?z9 ?z10 ?z11 ?z12 ?z13 ?z14 ?z15 ?xV ?xM ?xS ?xL ?x1 ?x2 ?x3 ?xLe ?xML ?xMB
    (case a1 => k_is); (case l1 => k_is); (case c1 => k_is); (case k1 => k_is)
    (case a2 => k_is); (case l2 => k_is); (case c2 => k_is); (case k2 => k_is)
    (case a3 => k_is); (case l3 => k_is); (case c3 => k_is); (case k3 => k_is)
    (case a4 => k_is); (case l4 => k_is); (case c4 => k_is); (case k4 => k_is)
    (case a5 => k_is); (case l5 => k_is); (case c5 => k_is); (case k5 => k_is)
    (case a6 => k_is); (case l6 => k_is); (case c6 => k_is); (case k6 => k_is)
    (case a7 => k_is); (case l7 => k_is); (case c7 => k_is); (case k7 => k_is)
    (case a8 => k_is); (case l8 => k_is); (case c8 => k_is); (case k8 => k_is)
    (case a9 => k_is); (case l9 => k_is); (case c9 => k_is); (case k9 => k_is)
    (case a10 => k_is); (case l10 => k_is); (case c10 => k_is); (case k10 => k_is)
    (case a11 => k_is); (case l11 => k_is); (case c11 => k_is); (case k11 => k_is)
    (case a12 => k_is); (case l12 => k_is); (case c12 => k_is); (case k12 => k_is)
    (case a13 => k_is); (case l13 => k_is); (case c13 => k_is); (case k13 => k_is)
    (case a14 => k_is); (case l14 => k_is); (case c14 => k_is); (case k14 => k_is)
    (case a15 => k_is); (case l15 => k_is); (case c15 => k_is); (case k15 => k_is)
    (case a16 => k_is); (case l16 => k_is); (case c16 => k_is); (case k16 => k_is)
    (case a17 => k_is); (case l17 => k_is); (case c17 => k_is); (case k17 => k_is)
    (case a18 => k_is); (case l18 => k_is); (case c18 => k_is); (case k18 => k_is)
    (case a19 => k_is); (case l19 => k_is); (case c19 => k_is); (case k19 => k_is)
    (case a20 => k_is); (case l20 => k_is); (case c20 => k_is); (case k20 => k_is)
    (case a21 => k_is); (case l21 => k_is); (case c21 => k_is); (case k21 => k_is)
    (case a22 => k_is); (case l22 => k_is); (case c22 => k_is); (case k22 => k_is)
    (case a23 => k_is); (case l23 => k_is); (case c23 => k_is); (case k23 => k_is)
    (case a24 => k_is); (case l24 => k_is); (case c24 => k_is); (case k24 => k_is)
    (case a25 => k_is); (case l25 => k_is); (case c25 => k_is); (case k25 => k_is)
    (case a26 => k_is); (case l26 => k_is); (case c26 => k_is); (case k26 => k_is)
    (case a27 => k_is); (case l27 => k_is); (case c27 => k_is); (case k27 => k_is)
    (case a28 => k_is); (case l28 => k_is); (case c28 => k_is); (case k28 => k_is)
    (case a29 => k_is); (case l29 => k_is); (case c29 => k_is); (case k29 => k_is)
    (case a30 => k_is); (case l30 => k_is); (case c30 => k_is); (case k30 => k_is)
    (case a31 => k_is); (case l31 => k_is); (case c31 => k_is); (case k31 => k_is)
    (case a32 => k_is); (case l32 => k_is); (case c32 => k_is); (case k32 => k_is)
    (case a33 => k_is); (case l33 => k_is); (case c33 => k_is); (case k33 => k_is)
    (case a34 => k_is); (case l34 => k_is); (case c34 => k_is); (case k34 => k_is)
    (case a35 => k_is); (case l35 => k_is); (case c35 => k_is); (case k35 => k_is)
    (case a36 => k_is); (case l36 => k_is); (case c36 => k_is); (case k36 => k_is)
    (case a37 => k_is); (case l37 => k_is); (case c37 => k_is); (case k37 => k_is)
    (case a38 => k_is); (case l38 => k_is); (case c38 => k_is); (case k38 => k_is)
    (case a39 => k_is); (case l39 => k_is); (case c39 => k_is); (case k39 => k_is)
    (case a40 => k_is); (case l40 => k_is); (case c40 => k_is); (case k40 => k_is)
    (case a41 => k_is); (case l41 => k_is); (case c41 => k_is); (case k41 => k_is)
    (case z1 => k_is); (case z2 => k_is); (case z3 => k_is); (case z4 => k_is)
    (case z5 => k_is); (case z6 => k_is); (case z7 => k_is); (case z8 => k_is)
    (case z9 => k_is); (case z10 => k_is); (case z11 => k_is); (case z12 => k_is)
    (case z13 => k_is); (case z14 => k_is); (case z15 => k_is); (case xV => k_is)
    (case xM => k_is); (case xS => k_is); (case xL => k_is); (case x1 => k_is)
    (case x2 => k_is); (case x3 => k_is); (case xLe => k_is); (case xML => k_is)
    (case xMB => k_is)

