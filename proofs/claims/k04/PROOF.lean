import PyProof.Rows.All
import Wide.All
import OpenK.AllK
import Wide.FinOn
import HandS.ForMost
import HandS.IsInst
import HandS.Style
import HandS.Set
import HandS.Strs
import HandS.SetBool
import HandS.SetFor
import PySem.Challenge.RW_ringproofs_k04_put_all_at_once
import HandS.Zip
import HandS.Deep
import HandS.Flow
import PyProof.Rows.RegFStrParts
import HandS.TupAny
import HandS.FStr
import HandS.Text
import HandS.CallLocal
import HandS.Codes
import PyProof.StrLaws
import HandS.Walk
import HandS.Steps
import HandS.Star
import HandS.Conv
import KE.KDictPairs
import HandS.Nested
import HandS.More
import HandS.SortInts
import KE.KRevSl
import HandS.TupLe
import HandS.EndTab
import KE.KNest
set_option Elab.async false
set_option linter.all false
set_option maxRecDepth 100000
set_option maxHeartbeats 4000000
/-! Two rules that the layer lacks: a comprehension that makes a set of ints, and set(xs) of a list of ints whose table is known well enough to be sorted afterwards. -/
namespace Rp
open PySem PySem.Spec PyProof.Rows L2 PpSet

section addi
variable {X : Cx}
/-- an int goes into a tracked set of ints -/
theorem putInt {pins : List (Addr × Obj)} {σ : L2.St} {H : Hp} {s : Shared} {E : Value → Shared → Prop} {D : Addr} {S : Int → Bool} {n : Nat} {y : Int} {t : Tok} {Q : Value → Shared → Prop}
    (I : Inv X pins σ H s) (hD : H D = some (SetO X.w D S n)) (few : n + 1 < scanBound)
    (go : ∀ s', Inv X pins σ (upd H D (SetO X.w D (fun j => S j || decide (j = y)) (if S y = true then n else n + 1))) s' → Q .none s') :
    wpAny (model X.prog X.w) X.A (call (.builtin "set.add") [.ref D, .int y t]) Q E s :=
  setR_add (setO_get I hD) few fun h' same now =>
    have there : ∃ u, h'.get? D = some u := let ⟨o, _, _, _, ho, _⟩ := now; ⟨o, ho⟩
    go _ (I.write (e := D) (t' := s.toks + 1) (by rw [hD]; trivial) (.inl rfl) (fun b u ne hu => (same.2 b ne).trans hu) there (setO_new now))

/-- what {e for x in .. if ..} asks where e is an int -/
def tScI (w : World) (wi : TI) (g : TG) (tt : TT) (te : TE) (vs : List Nat) : TE := fun σ H Q => wi σ H fun J H1 => ∀ D, H1 D = none →
  ∃ W : Nat → Nat → Hp → Prop, (∃ m, W 0 m (upd H1 D (SetO w D (fun _ => false) 0))) ∧ ∀ i m H, W i m H → (J.stop i H ∧ Q (.ref D) H) ∨
    (J.go i H ∧ ∃ Nx : Hp → Prop, (∀ H', Nx H' → ∃ m', m' < m ∧ W (i + 1) m' H') ∧ ∀ x H', J.yld i H x H' → g x (wipe σ vs) H' fun σ2 H2 => wipe σ2 vs = wipe σ vs ∧
      tt σ2 H2 fun b H3 => if b = true then te σ2 H3 fun y H4 => ∃ (k : Int) (S : Int → Bool) (n : Nat), y = .int k ∧ H4 D = some (SetO w D S n) ∧ n + 1 < scanBound ∧
        Nx (upd H4 D (SetO w D (fun j => S j || decide (j = k)) (if S k = true then n else n + 1))) else Nx H3)

abbrev emptySet (w : World) : Obj := { cls := .type "set", dict := none, data := .set #[] 0 (.fresh 0 0 (!w.params.followText "set-order")) }

theorem pe_scI {elt tg iter : Expr} {ifs : List Expr} {scope : Scope} {own : List (PySem.Str × Nat)} {pos : Pos} {wi : TI} {g : TG} {tt : TT} {te : TE}
    (hc : X.calm = true) (hN : X.N.Nodup) (hi : PI X tg iter wi) (ok : BlkOk X.N X.env.scope scope own)
    (hg : ∀ (s : Shared) (H : Hp) (C : Addr) (cl : List (PySem.Str × Addr)) (fp : List Addr), PG (X.blk s H scope (compEnvC scope cl C X.env) fp) tg g)
    (ht : ∀ (s : Shared) (H : Hp) (C : Addr) (cl : List (PySem.Str × Addr)) (fp : List Addr), PTs (X.blk s H scope (compEnvC scope cl C X.env) fp) ifs tt)
    (he : ∀ (s : Shared) (H : Hp) (C : Addr) (cl : List (PySem.Str × Addr)) (fp : List Addr), PE (X.blk s H scope (compEnvC scope cl C X.env) fp) elt te)
    (hs : ∀ x, foldedSetIterable iter X.env x = pure x := by intro _; rfl) :
    PE X (.SetComp elt [⟨tg, iter, ifs, 0⟩] scope pos) (tScI X.w wi g tt te (own.map (·.2))) := by
  refine ⟨fun pins s σ H Q I h => ?_⟩
  rw [eval_SetComp]
  have caught : ∀ y ∈ scope.names, y.2 = .free → ∃ c, X.env.cells.lookup y.1 = some c := fun y hy e =>
    (ok.free y hy e).elim (fun k => I.ok.has _ (.inl k)) fun k => I.ok.has _ (.inr k)
  refine wpAny_comprehension_free (use := none) rfl hs (closure_ok caught) ok.kind (fun y hy e => (ok.uniq y hy).trans (by rw [e])) (thn (hi.run pins s σ H _ I h) fun xv s1 hx => thn hx fun itv s2 h2 => ?_)
  obtain ⟨it, fp, tn, J, H2, rfl, I2, T, st2, f2, q⟩ := h2
  refine newSet_ok (newEnv_comp ?_)
  -- the new set's place
  obtain ⟨D, hD⟩ : ∃ D, s2.heap.objs.size = D := ⟨_, rfl⟩
  rw [hD]
  obtain ⟨W, ⟨m0, w0⟩, turn⟩ := q D (I2.hok.fresh (Nat.le_of_eq hD))
  obtain ⟨s3, hs3⟩ : ∃ s3 : Shared, { s2 with heap := s2.heap.push (emptySet X.w) } = s3 := ⟨_, rfl⟩
  have h3 : s3.heap = s2.heap.push (emptySet X.w) := by rw [← hs3]
  have I3 : Inv X pins σ (upd H2 D (SetO X.w D (fun _ => false) 0)) s3 := by
    have z := I2.laid (a := D) (o := SetO X.w D (fun _ => false) 0) (t' := s2.toks) (h' := s2.heap.push (emptySet X.w)) (fun b o e => Heap.get?_push_of_some _ e) (Nat.le_of_eq hD) (by rw [← hD]; exact setO_new (setR_fresh X.w))
    exact hs3 ▸ z
  have low : ∀ b ∈ fp, b < s2.heap.objs.size := fun b hb => let ⟨o, e, _⟩ := T.obj _ _ st2 b hb; Heap.lt_size e
  have f3 : ∀ b ∈ fp, FpOk X pins (upd H2 D (SetO X.w D (fun _ => false) 0)) b ∧ b < s3.heap.objs.size := fun b hb =>
    ⟨⟨(upd_ne (by rw [← hD]; exact Nat.ne_of_lt (low b hb))).trans (f2 b hb).1, (f2 b hb).2⟩, by rw [h3, Heap.size_push]; exact Nat.lt_succ_of_lt (low b hb)⟩
  have st3 : tn 0 s3.heap := T.keep _ _ _ st2 fun b _ o e => h3 ▸ Heap.get?_push_of_some _ e
  have I4 := block_start I3 ok hN f3
  obtain ⟨H3, hH3⟩ : ∃ H3, upd H2 D (SetO X.w D (fun _ => false) 0) = H3 := ⟨_, rfl⟩
  rw [hH3] at I3 f3 I4 w0
  obtain ⟨C, hC⟩ : ∃ C, s3.heap.objs.size = C := ⟨_, rfl⟩
  rw [hC] at I4
  have pg := hg s3 H3 C (cellsFrom (C + 1) scope.names (cloFrom X.env.cells scope.names [])) fp
  have pt := ht s3 H3 C (cellsFrom (C + 1) scope.names (cloFrom X.env.cells scope.names [])) fp
  have pe := he s3 H3 C (cellsFrom (C + 1) scope.names (cloFrom X.env.cells scope.names [])) fp
  subst hs3
  have hC' : (s2.heap.push (emptySet X.w)).objs.size = C := hC
  show codeAny _ _ (.compStart (.SetComp elt [⟨tg, iter, ifs, 0⟩] scope pos) 0 (.ref it) (.ref D) (compEnvC scope (cellsFrom ((s2.heap.push (emptySet X.w)).objs.size + 1) scope.names (cloFrom X.env.cells scope.names [])) (s2.heap.push (emptySet X.w)).objs.size X.env))
    (compPost (model X.prog X.w) X.A X.xe none (EP X pins σ Q) (.ref D) (s2.heap.push (emptySet X.w)).objs.size) { s2 with heap := pushCells ((s2.heap.push (emptySet X.w)).push { cls := .type "dict", data := .dict #[] }) scope.names }
  rw [hC']
  obtain ⟨ce, hce⟩ : ∃ ce, compEnvC scope (cellsFrom (C + 1) scope.names (cloFrom X.env.cells scope.names [])) C X.env = ce := ⟨_, rfl⟩
  rw [hce] at I4 pg pt pe ⊢
  have cL : ce.locals = C := by subst hce; rfl
  obtain ⟨s4, hs4⟩ : ∃ s4 : Shared, { s2 with heap := pushCells ((s2.heap.push (emptySet X.w)).push { cls := .type "dict", data := .dict #[] }) scope.names } = s4 := ⟨_, rfl⟩
  have I4 : Inv (X.blk _ H3 scope ce fp) [] (wipe σ (own.map (·.2))) H3 s4 := hs4 ▸ I4
  rw [hs4]
  have st4 : tn 0 s4.heap := T.keep _ _ _ st3 fun b _ o e => by rw [← hs4]; exact pushCells_keeps _ _ _ _ (Heap.get?_push_of_some _ e)
  obtain ⟨Y, hY⟩ : ∃ Y, X.blk { s2 with heap := s2.heap.push (emptySet X.w) } H3 scope ce fp = Y := ⟨_, rfl⟩
  have rest : ∀ {σ' : L2.St} {H' : Hp} {s' : Shared}, Inv Y [] σ' H' s' → (∀ b ∈ fp, H' b = none) → ∀ b ∈ fp, FpOk Y [] H' b := by
    subst hY
    intro σ' H' s' I' hn b hb
    exact ⟨hn b hb, (I'.ok.exf b hb).1, I'.ok.exfs b hb, .inl hb, fun x c e => (I'.ok.exf b hb).2 x c e, fun p hp => absurd (show p ∈ ([] : List (Addr × Obj)) ++ [] from hp) (by simp)⟩
  have round : codeAny (model X.prog X.w) X.A (.compLoop (.SetComp elt [⟨tg, iter, ifs, 0⟩] scope pos) 0 (.ref it) (.ref D) ce) (compPost (model X.prog X.w) X.A X.xe none (EP X pins σ Q) (.ref D) C) s4 := by
    refine compLoopS_any (fun n s' => ∃ i H', Inv Y [] (wipe σ (own.map (·.2))) H' s' ∧ tn i s'.heap ∧ (∀ b ∈ fp, H' b = none) ∧ W i n H') ?_ m0 ⟨0, H3, hY ▸ I4, st4, fun b hb => (f3 b hb).1.1, w0⟩
    rintro n s5 ⟨i, H5, I5, st5, n5, w5⟩
    rcases turn i n H5 w5 with ⟨stop, qq⟩ | ⟨go, Nx, hNx, step⟩
    · subst hY
      refine thnF (T.done (X.blk _ H3 scope ce fp) rfl rfl rfl hc i [] s5 _ H5 (fun _ _ => False) I5 (rest I5 n5) st5 stop) fun r s6 ⟨hr, I6⟩ => ?_
      subst hr
      have I7 : Inv X pins σ H5 s6 := I3.call' (ch := fp) I6.os I6.base I6.hok I6.bare fun b hb => ⟨(f3 b hb).1.2.2.2.1, (f3 b hb).1.2.1, (f3 b hb).1.2.2.2.2.1, (f3 b hb).1.2.2.2.2.2⟩
      have nC : H5 C = none := cL ▸ (show H5 ce.locals = none from I6.free)
      obtain ⟨m, hn, _⟩ := I6.loc
      have hn : s6.heap.Ns C m := cL ▸ (show s6.heap.Ns ce.locals m from hn)
      refine ⟨m, hn, fun h'' sb => ?_⟩
      obtain ⟨g0, g1, g2, g3, g4, g5⟩ := I3.fpOk (Nat.le_of_eq hC) nC
      exact ⟨.ref D, H5, I7.turned (t' := s6.toks) (fun b o hb e => (sb.2 b hb).trans e) g0 g1 g3 g4 g5, rfl, qq⟩
    · have ti := T.item Y (by subst hY; rfl) (by subst hY; rfl) (by subst hY; rfl) (by subst hY; exact hc) i [] s5 _ H5 (fun _ _ => False) I5 (rest I5 n5) st5 go
      subst hY
      refine thnF ti fun r s6 ⟨u, hr, h6⟩ => ?_
      subst hr
      refine thnF h6 fun _ s7 ⟨x, H7, I7, r7, y7, st7, n7⟩ => ?_
      refine thnF (pg.run _ s7 _ H7 x u _ (I7.pinned (rest I7 n7) (T.obj _ _ st7)) r7 (step x H7 y7)) fun _ s8 ⟨σ8, H8, I8, hw8, q8⟩ => ?_
      refine thnF (pt.run _ s8 σ8 H8 _ I8 q8) fun b s9 ⟨H9, I9, q9⟩ => ?_
      have turned : ∀ {s' : Shared} {H' : Hp}, Inv (X.blk { s2 with heap := s2.heap.push (emptySet X.w) } H3 scope ce fp) ([] ++ pinsAt fp s7.heap) σ8 H' s' → Nx H' → ∃ m, m < n ∧ ∃ i H', Inv (X.blk { s2 with heap := s2.heap.push (emptySet X.w) } H3 scope ce fp) [] (wipe σ (own.map (·.2))) H' s' ∧ tn i s'.heap ∧ (∀ b ∈ fp, H' b = none) ∧ W i m H' := by
        intro s' H' I' nx
        obtain ⟨m', hm, w'⟩ := hNx H' nx
        have pin : ∀ b ∈ fp, ∀ o, s7.heap.get? b = some o → s'.heap.get? b = some o ∧ H' b = none := fun b hb o e =>
          let z := I'.pin (b, o) (List.mem_append_right _ (List.mem_append_right _ (mem_pinsAt hb e))); ⟨z.1, z.2.1⟩
        refine ⟨m', hm, i + 1, H', (I'.unpinned (pins := [])).weak (by rw [← hw8, wipe_length]) (fun j v e => (wipe_some (by rw [hw8]; exact e)).1), T.keep _ _ _ st7 fun b hb o e => (pin b hb o e).1, fun b hb => ?_, w'⟩
        obtain ⟨o, e, _⟩ := T.obj _ _ st7 b hb
        exact (pin b hb o e).2
      cases b with
      | false => simp only [Bool.false_eq_true, if_false] at q9 ⊢; exact turned I9 q9
      | true =>
        simp only [if_true] at q9 ⊢
        refine thnF (pe.run _ s9 σ8 H9 _ I9 q9) fun z s10 ⟨yv, H10, I10, r10, k, S0, n0, ey, hD10, few, nx⟩ => ?_
        subst ey
        obtain ⟨t, rfl⟩ := r10
        exact putInt (X := X.blk _ H3 scope ce fp) I10 hD10 few fun s11 I11 => turned I11 nx
  exact codeAny_compStart_set round (T.self X.A 0 _ _ _ st4 round)

/-- the walk over a list that the block leaves as it is -/
theorem scI_list {w : World} {K : PySem.W.Frag} {a : Addr} {xs : List V} {g : TG} {tt : TT} {te : TE} {vs : List Nat} {σ : L2.St} {H1 : Hp} {D : Addr} {Qd : Hp → Prop}
    (Pv : Nat → Hp → Prop) (h0 : Pv 0 (upd H1 D (SetO w D (fun _ => false) 0))) (hl : ∀ i H, i ≤ xs.length → Pv i H → SqL K H a xs)
    (hs : ∀ i x H, xs[i]? = some x → Pv i H → g x (wipe σ vs) H fun σ2 H2 => wipe σ2 vs = wipe σ vs ∧ tt σ2 H2 fun b H3 => if b = true then te σ2 H3 fun y H4 =>
      ∃ (k : Int) (S : Int → Bool) (n : Nat), y = .int k ∧ H4 D = some (SetO w D S n) ∧ n + 1 < scanBound ∧ Pv (i + 1) (upd H4 D (SetO w D (fun j => S j || decide (j = k)) (if S k = true then n else n + 1))) else Pv (i + 1) H3)
    (hd : ∀ H, Pv xs.length H → Qd H) :
    ∃ W : Nat → Nat → Hp → Prop, (∃ m, W 0 m (upd H1 D (SetO w D (fun _ => false) 0))) ∧ ∀ i m H, W i m H → ((Itl K a).stop i H ∧ Qd H) ∨
      ((Itl K a).go i H ∧ ∃ Nx : Hp → Prop, (∀ H', Nx H' → ∃ m', m' < m ∧ W (i + 1) m' H') ∧ ∀ x H', (Itl K a).yld i H x H' → g x (wipe σ vs) H' fun σ2 H2 => wipe σ2 vs = wipe σ vs ∧
        tt σ2 H2 fun b H3 => if b = true then te σ2 H3 fun y H4 => ∃ (k : Int) (S : Int → Bool) (n : Nat), y = .int k ∧ H4 D = some (SetO w D S n) ∧ n + 1 < scanBound ∧
          Nx (upd H4 D (SetO w D (fun j => S j || decide (j = k)) (if S k = true then n else n + 1))) else Nx H3) := by
  refine ⟨fun i m H => m + i = xs.length ∧ Pv i H, ⟨xs.length, by simp, h0⟩, ?_⟩
  rintro i m H ⟨em, p⟩
  have here := hl i H (by omega) p
  rcases Nat.lt_or_ge i xs.length with lt | ge
  · refine .inr ⟨⟨xs, xs[i], here, by simp [lt]⟩, Pv (i + 1), fun H' p' => ⟨m - 1, by omega, by omega, p'⟩, fun x H' ⟨e, y⟩ => ?_⟩
    subst e
    exact hs i x _ (y xs here) p
  · have e : i = xs.length := by omega
    subst e
    exact .inl ⟨⟨xs, here, Nat.le_refl _⟩, hd H p⟩
end addi
end Rp

namespace Rp
open PySem PySem.Spec PyProof.Rows L2 PpSet
section
variable {P : Program} {w : World} {A : Around} {E : Value → Shared → Prop} {s : Shared}
set_option maxHeartbeats 6400000 in
theorem set_of_list {l : Addr} {items : Array Value} (ns : List Int) {Q : Value → Shared → Prop} (calm : A.handled = none) (hl : s.heap.IsList l items) (hi : IntsAre items.toList ns) (few : ns.length + 1 < scanBound)
    (go : ∀ (h' : Heap) (tk c : Nat), SetR w h' s.heap.objs.size (fun j => decide (j ∈ ns)) c → c ≤ ns.length → (∀ b o, s.heap.get? b = some o → h'.get? b = some o) → Q (.ref s.heap.objs.size) { s with heap := h', toks := tk }) :
    wpAny (model P w) A (call (.type "set") [.ref l]) Q E s := by
  have cnt : items.size = ns.length := by have q := IntsAre.length hi; rwa [Array.length_toList] at q
  obtain ⟨c, tl, hmro⟩ := F.called_set.mro
  have hmade := F.called_set.made
  have hsub := F.called_set.sub
  refine wpAny_call (codeAny_of_tree ?_)
  show wpAny _ _ (callAny (.type "set") _) _ _ _
  refine wpAny_pure ⟨Code.quiet_builtin _ (by decide +kernel), codeAny_builtin F.entry_type_call ?_⟩
  rw [Around.under_plain (weight_type_call_type "set" [.ref l] []) rfl]
  have h1 := F.called_set.notType
  have h2 := F.called_set.canCreate
  have hct := F.typeCall_set_1 (.ref l)
  repeat (any_goals (first | assumption | wp_step))
  refine codeAny_mono (code_set_led1 (.ref l) (E := E) (Q₁ := fun obj z => obj = .ref s.heap.objs.size ∧ z = { s with heap := s.heap.push (emptySet w) }) ⟨rfl, rfl⟩) fun r s₁ hr => ?_
  cases r with
  | error e => exact hr
  | ok fl =>
    cases fl with
    | ret obj =>
      obtain ⟨rfl, rfl⟩ := hr
      have atNew : (s.heap.push (emptySet w)).get? s.heap.objs.size = some (emptySet w) := Heap.get?_push_size _ rfl
      have hT : Shared.TypeIs { s with heap := s.heap.push (emptySet w) } (.ref s.heap.objs.size) "set" := ⟨_, atNew, rfl⟩
      have hli := F.called_set.init.lookup
      have hbi := F.called_set.init.bind (.ref s.heap.objs.size)
      repeat (any_goals (first | assumption | wp_step))
      refine codeAny_mono (codeAny_call_builtin (R := wants (fun r z => r = .none ∧ ∃ h' tk c, z = { s with heap := h', toks := tk } ∧ SetR w h' s.heap.objs.size (fun j => decide (j ∈ ns)) c ∧ c ≤ ns.length ∧
        (∀ b o, s.heap.get? b = some o → h'.get? b = some o)) E) F.called_set.init.plain F.entry_set_init (check_set_init_1 hT ?_)) fun r₂ s₂ hr₂ => ?_
      · obtain ⟨⟨ocls, odict, odata, oslots⟩, hol, hcl, nl, hdl⟩ := hl
        simp only at hcl hdl
        subst hcl hdl
        have hol' : (s.heap.push (emptySet w)).get? l = some { cls := .type "list", dict := odict, data := .seq items nl, slots := oslots } := Heap.get?_push_of_some _ hol
        have hsls := F.sub_list_set
        have hslf := F.sub_list_frozenset
        have hne : (Value.type "list" == Value.type "dict") = false := by decide
        have here : (s.heap.push (emptySet w)).IsList l items := ⟨_, hol', rfl, nl, rfl⟩
        unfold Builtin.«set.__init__» noKeywords Builtin.Frozenset.updateFrom
        generalize hPI : pyIter = PI
        wp_walk
        subst hPI
        refine wpAny_pyIter_list here (wpAny_bind (wpAny_runValue ?_))
        have below : l < s.heap.objs.size := Heap.lt_size hol
        have top : (s.heap.push (emptySet w)).objs.size = s.heap.objs.size + 1 := Heap.size_push ..
        have apart : l ≠ (s.heap.push (emptySet w)).objs.size := by rw [top]; exact Nat.ne_of_lt (Nat.lt_succ_of_lt below)
        have out : s.heap.objs.size ∉ [(s.heap.push (emptySet w)).objs.size, l] := by
          simp only [List.mem_cons, List.not_mem_nil, or_false, not_or, top]
          exact ⟨Nat.ne_of_lt (Nat.lt_succ_self _), Nat.ne_of_gt below⟩
        have each : ∀ (i : Nat) (v : Value), items[i]? = some v → ∃ k t, ns[i]? = some k ∧ v = .int k t := by
          intro i v hv
          have lt : i < ns.length := by rw [← cnt]; exact (Array.getElem?_eq_some_iff.mp hv).1
          obtain ⟨t, e⟩ := PyProof.Rows.IntsAre.int_at hi i v (by rw [Array.getElem?_toList]; exact hv)
          exact ⟨ns[i], t, List.getElem?_eq_getElem lt, by rw [e, List.getD_eq_getElem?_getD, List.getElem?_eq_getElem lt]; rfl⟩
        refine set_update_ints ((Walks.list (by simp [calm]) _ l apart items).toS) s.heap.objs.size out ns cnt few each (items.size - 0) 0 _ (by omega) (Nat.zero_le _)
          ⟨⟨_, Heap.get?_push_size _ rfl, rfl, rfl⟩, here.push _⟩ ⟨0, Nat.le_refl 0, setR_new_at (Heap.get?_push_of_some _ atNew)⟩ fun s' c' hm hc' hS' => ?_
        obtain ⟨h', g2, d', tk', os'⟩ := s'
        have eg : g2 = s.gens := hm.gens
        have ed : d' = s.drawn := hm.drawn
        have eo : os' = s.os := hm.os
        subst eg ed eo
        show wpAny _ _ _ _ _ _
        refine wpAny_pure ?_
        show wpAny _ _ (ret Value.none) _ _ _
        refine wpAny_pure ⟨rfl, h', tk', c', rfl, hS', by omega, fun b o e => ?_⟩
        have lt := Heap.lt_size e
        exact hm.heap b o (by simp only [List.mem_cons, List.not_mem_nil, or_false, not_or, top]; exact ⟨Nat.ne_of_lt lt, Nat.ne_of_lt (Nat.lt_succ_of_lt lt)⟩) (Heap.get?_push_of_some _ (Heap.get?_push_of_some _ e))
      · cases r₂ with
        | error e => exact hr₂
        | ok fl₂ =>
          cases fl₂ with
          | ret r =>
            obtain ⟨rfl, h', tk, c', rfl, hS', hc', hk'⟩ := hr₂
            repeat (any_goals (first | assumption | wp_step))
            exact go _ _ _ hS' hc' hk'
          | _ => exact hr₂.elim
    | _ => exact hr.elim
end
section
variable {X : Cx}
theorem intsOf : ∀ {ns : List Int} {us : List Value}, Vals (ns.map V.int) us → PyProof.Rows.IntsAre us ns
  | [], _, .nil => .nil
  | n :: ns, _, .cons ⟨k, e⟩ t => by subst e; exact .cons n k (intsOf t)
/-- set(xs), xs a list of ints -/
def rSetI (K : PySem.W.Frag) (w : World) : List V → Hp → VK → Prop := fun vs H Q => ∃ (a : Addr) (ns : List Int), vs = [V.ref a] ∧ SqL K H a (ns.map V.int) ∧ ns.length < 1000 ∧
  ∀ (p : Addr) (c : Nat), H p = none → c ≤ ns.length → Q (.ref p) (upd H p (SetO w p (fun j => decide (j ∈ ns)) c))
theorem cr_setI (hc : X.calm = true) : CallR X (.type "set") (rSetI X.K X.w) := by
  intro pins s σ H vs us Q I r h
  obtain ⟨a, ns, rfl, hs, hn, q⟩ := h
  rw [Vals.ref1 r]
  obtain ⟨its, rv, pl, hz⟩ := I.list hs
  refine set_of_list ns (I.ok.hd hc) pl.isList (by simpa using intsOf rv) (by unfold scanBound; omega) fun h' tk c R hc' k => ?_
  have hn : H s.heap.objs.size = none := I.hok.fresh (Nat.le_refl _)
  exact ⟨.ref _, upd H s.heap.objs.size (SetO X.w s.heap.objs.size (fun j => decide (j ∈ ns)) c), I.laid (t' := tk) k (Nat.le_refl _) (setO_new R), rfl, q _ c hn hc'⟩
end
end Rp

namespace Rp
open PySem L2
/-! ### TERMs -/
inductive Tm where
  | v (n : Int) | z | s (t : Tm) | f (l r : Tm)
  deriving DecidableEq
namespace Tm
def size : Tm → Nat
  | v _ => 1 | z => 1 | s t => t.size + 1 | f l r => l.size + r.size + 1
def deep : Tm → Nat
  | v _ => 0 | z => 0 | s t => t.deep + 1 | f l r => max l.deep r.deep + 1
def nums : Tm → List Int
  | v n => [n] | z => [] | s t => t.nums | f l r => l.nums ++ r.nums
/-- all parts, the whole first, the right-hand ones ahead of the left-hand ones -/
def rpost : Tm → List Tm
  | v n => [v n] | z => [z] | s t => s t :: t.rpost | f l r => f l r :: (r.rpost ++ l.rpost)
def kids : Tm → List Tm
  | v _ => [] | z => [] | s t => [t] | f l r => [l, r]
theorem size_pos : ∀ t : Tm, 1 ≤ t.size
  | v _ => Nat.le_refl _ | z => Nat.le_refl _ | s _ => by unfold size; omega | f _ _ => by unfold size; omega
theorem deep_lt : ∀ t : Tm, t.deep < t.size
  | v _ => Nat.zero_lt_one | z => Nat.zero_lt_one | s t => by have := deep_lt t; unfold deep size; omega
  | f l r => by have := deep_lt l; have := deep_lt r; unfold deep size; omega
theorem rpost_len : ∀ t : Tm, t.rpost.length = t.size
  | v _ => rfl | z => rfl | s t => by unfold rpost size; rw [List.length_cons, rpost_len t]
  | f l r => by unfold rpost size; rw [List.length_cons, List.length_append, rpost_len l, rpost_len r]; omega
/-- an int among the parts -/
theorem mem_rpost (n : Int) : ∀ t : Tm, v n ∈ t.rpost ↔ n ∈ t.nums
  | v m => by unfold rpost nums; simp
  | z => by unfold rpost nums; simp
  | s t => by unfold rpost nums; have := mem_rpost n t; simp [this]
  | f l r => by unfold rpost nums; have := mem_rpost n l; have := mem_rpost n r; simp [*]; exact Or.comm
theorem rpost_kids (t : Tm) : t.rpost = t :: (t.kids.reverse.flatMap rpost) := by
  cases t <;> simp [rpost, kids]
theorem kids_size (t : Tm) : (t.kids.map size).sum + 1 = t.size := by
  cases t <;> simp [kids, size] <;> omega
theorem nums_len : ∀ t : Tm, t.nums.length ≤ t.size
  | v _ => Nat.le_refl _ | z => Nat.zero_le _ | s t => by have := nums_len t; unfold nums size; omega
  | f l r => by have := nums_len l; have := nums_len r; unfold nums size; rw [List.length_append]; omega
/-- all signs, as law's leaves has them -/
def signs : Tm → List V
  | v n => [.int n] | z => [.str "0"] | s t => .str "s" :: t.signs | f l r => .str "f" :: (l.signs ++ r.signs)
theorem signs_len : ∀ t : Tm, t.signs.length = t.size
  | v _ => rfl | z => rfl | s t => by unfold signs size; rw [List.length_cons, signs_len t]
  | f l r => by unfold signs size; rw [List.length_cons, List.length_append, signs_len l, signs_len r]
end Tm
/-- the ints of a row of ints and texts -/
def rowInts : List V → List Int
  | [] => []
  | .int n :: r => n :: rowInts r
  | _ :: r => rowInts r
theorem rowInts_append : ∀ a b : List V, rowInts (a ++ b) = rowInts a ++ rowInts b
  | [], b => rfl
  | x :: r, b => by cases x <;> simp [rowInts, rowInts_append r b]
theorem signs_nums : ∀ t : Tm, rowInts t.signs = t.nums
  | .v _ => rfl | .z => rfl | .s t => by simp [Tm.signs, Tm.nums, rowInts, signs_nums t]
  | .f l r => by simp [Tm.signs, Tm.nums, rowInts, rowInts_append, signs_nums l, signs_nums r]
/-- a row of ints and texts -/
def Flat2 : V → Prop
  | .int _ => True
  | .str _ => True
  | _ => False
theorem signs_flat : ∀ t : Tm, ∀ x ∈ t.signs, Flat2 x
  | .v _, x, h => by simp [Tm.signs] at h; subst h; trivial
  | .z, x, h => by simp [Tm.signs] at h; subst h; trivial
  | .s t, x, h => by
    simp only [Tm.signs, List.mem_cons] at h
    rcases h with h | h
    · subst h; trivial
    · exact signs_flat t x h
  | .f l r, x, h => by
    simp only [Tm.signs, List.mem_cons, List.mem_append] at h
    rcases h with h | h | h
    · subst h; trivial
    · exact signs_flat l x h
    · exact signs_flat r x h
/-! ### two rising rows of the same ints are one -/
theorem rising_one : ∀ {a b : List Int}, a.Pairwise (· < ·) → b.Pairwise (· < ·) → (∀ k, k ∈ a ↔ k ∈ b) → a = b
  | [], [], _, _, _ => rfl
  | [], y :: b, _, _, h => by have := (h y).2 (by simp); simp at this
  | x :: a, [], _, _, h => by have := (h x).1 (by simp); simp at this
  | x :: a, y :: b, ha, hb, h => by
    rw [List.pairwise_cons] at ha hb
    have exy : x = y := by
      rcases List.mem_cons.mp ((h x).1 (by simp)) with e | e
      · exact e
      · rcases List.mem_cons.mp ((h y).2 (by simp)) with e' | e'
        · exact e'.symm
        · have := hb.1 x e
          have := ha.1 y e'
          omega
    subst exy
    rw [rising_one ha.2 hb.2 fun k => ?_]
    constructor
    · intro hk
      rcases List.mem_cons.mp ((h k).1 (List.mem_cons_of_mem _ hk)) with e | e
      · have := ha.1 k hk; omega
      · exact e
    · intro hk
      rcases List.mem_cons.mp ((h k).2 (List.mem_cons_of_mem _ hk)) with e | e
      · have := hb.1 k hk; omega
      · exact e
/-! ### heaps -/
/-- all but b stays -/
def But (b : Addr) (H H' : Hp) : Prop := ∀ c o, H c = some o → c ≠ b → H' c = some o
theorem But.refl (b : Addr) (H : Hp) : But b H H := fun _ _ h _ => h
theorem But.trans {b : Addr} {H H1 H2 : Hp} (x : But b H H1) (y : But b H1 H2) : But b H H2 := fun c o h n => y c o (x c o h n) n
theorem but_of {b : Addr} {H H' : Hp} (x : Same H H') : But b H H' := fun c o h _ => x c o h
theorem same_new {H : Hp} {p : Addr} (h : H p = none) (o : HO) : Same H (upd H p o) := fun b u q => by rw [upd_ne (ne_of_none q h)]; exact q
theorem but_upd {H : Hp} {b : Addr} (o : HO) : But b H (upd H b o) := fun c u h n => by rw [upd_ne n]; exact h
/-- the box of draws: j bounds how often it was drawn from -/
structure BoxAt (H : Hp) (b : Addr) (j : Nat) : Prop where
  ex : ∃ x y z : Int, H b = some (.lst [.int x, .int y, .int z]) ∧ 0 ≤ x ∧ 0 ≤ y ∧ y < 10000000000 ∧ 0 ≤ z ∧ z ≤ (j : Int)
theorem BoxAt.same {H H' : Hp} {b : Addr} {j : Nat} (B : BoxAt H b j) (e : Same H H') : BoxAt H' b j := by
  obtain ⟨x, y, z, h, r⟩ := B.ex
  exact ⟨x, y, z, e _ _ h, r⟩
theorem BoxAt.more {H : Hp} {b : Addr} {j k : Nat} (B : BoxAt H b j) (h : j ≤ k) : BoxAt H b k := by
  obtain ⟨x, y, z, e, h1, h2, h3, h4, h5⟩ := B.ex
  exact ⟨x, y, z, e, h1, h2, h3, h4, by omega⟩
theorem BoxAt.some {H : Hp} {b : Addr} {j : Nat} (B : BoxAt H b j) : ∃ xs, H b = some (.lst xs) := by
  obtain ⟨x, y, z, e, _⟩ := B.ex
  exact ⟨_, e⟩
/-- a TERM stands as the value v -/
inductive TmAt (H : Hp) : V → Tm → Prop where
  | v (n : Int) : TmAt H (.int n) (.v n)
  | z {a : Addr} (h : H a = some (.tup [.str "0"])) : TmAt H (.ref a) .z
  | s {a : Addr} {x : V} {t : Tm} (h : H a = some (.tup [.str "s", x])) (q : TmAt H x t) : TmAt H (.ref a) (.s t)
  | f {a : Addr} {x y : V} {l r : Tm} (h : H a = some (.tup [.str "f", x, y])) (q : TmAt H x l) (q' : TmAt H y r) : TmAt H (.ref a) (.f l r)
theorem TmAt.mono {H H' : Hp} (e : ∀ a xs, H a = some (.tup xs) → H' a = some (.tup xs)) {v : V} {t : Tm} (h : TmAt H v t) : TmAt H' v t := by
  induction h with
  | v n => exact .v n
  | z h => exact .z (e _ _ h)
  | s h _ ih => exact .s (e _ _ h) ih
  | f h _ _ ih ih' => exact .f (e _ _ h) ih ih'
theorem TmAt.same {H H' : Hp} (e : Same H H') {v : V} {t : Tm} (h : TmAt H v t) : TmAt H' v t := h.mono fun a xs q => e a _ q
theorem TmAt.but {H H' : Hp} {b : Addr} {ys : List V} (e : But b H H') (hb : H b = some (.lst ys)) {v : V} {t : Tm} (h : TmAt H v t) : TmAt H' v t :=
  h.mono fun a xs q => e a _ q (ne_of q hb (by intro z; cases z))
/-! ### what is alike, kind by kind (to a depth) -/
def Plain : V → Prop
  | .non => True
  | .bl _ => True
  | .int _ => True
  | .str _ => True
  | _ => False
def Alike (H : Hp) : Nat → V → V → Prop
  | 0, x, y => Plain x ∧ x = y
  | n + 1, x, y => (Plain x ∧ x = y) ∨ ∃ a b xs ys, x = .ref a ∧ y = .ref b ∧ ((H a = some (.lst xs) ∧ H b = some (.lst ys)) ∨ (H a = some (.tup xs) ∧ H b = some (.tup ys))) ∧
      xs.length = ys.length ∧ xs.length ≤ 1000000 ∧ ∀ (i : Nat) (u v : V), xs[i]? = some u → ys[i]? = some v → Alike H n u v
theorem Alike.mono {H H' : Hp} (e : Same H H') : ∀ (n : Nat) {x y : V}, Alike H n x y → Alike H' n x y
  | 0, _, _, h => by unfold Alike at h ⊢; exact h
  | n + 1, x, y, h => by
    unfold Alike at h ⊢
    rcases h with h | ⟨a, b, xs, ys, h1, h2, h3, h4, h5, h6⟩
    · exact .inl h
    · exact .inr ⟨a, b, xs, ys, h1, h2, h3.imp (fun q => ⟨e _ _ q.1, e _ _ q.2⟩) (fun q => ⟨e _ _ q.1, e _ _ q.2⟩), h4, h5, fun i u v p q => Alike.mono e n (h6 i u v p q)⟩
theorem alike_ints {H : Hp} {n : Nat} {a b : Addr} {ns : List Int} (ha : H a = some (.lst (ns.map V.int))) (hb : H b = some (.lst (ns.map V.int))) (hl : ns.length ≤ 1000000) : Alike H (n + 1) (.ref a) (.ref b) := by
  unfold Alike
  refine .inr ⟨a, b, _, _, rfl, rfl, .inl ⟨ha, hb⟩, rfl, by rw [List.length_map]; exact hl, fun i u v h1 h2 => ?_⟩
  have e : u = v := Option.some.inj (h1.symm.trans h2)
  subst e
  rw [List.getElem?_map] at h1
  cases q : ns[i]? with
  | none => rw [q] at h1; cases h1
  | some k =>
    rw [q] at h1
    cases h1
    cases n with
    | zero => unfold Alike; exact ⟨trivial, rfl⟩
    | succ n => unfold Alike; exact .inl ⟨trivial, rfl⟩
end Rp

/-! Defs whose body asks for the repr of lists and tuples: their promise is kept where no repr is at work (the around's guards are told to be none), and so where the law itself is called. -/
namespace Rp
open PySem PySem.Spec PyProof.Rows L2
structure GnOk (P : Program) (w : World) (K : PySem.W.Frag) (mg : Str → Option Value) (base : Heap) (k : Nat) (f : Addr) (fd : FuncData) (ps : List Str) (sp : Sp) : Prop where
  len : ∀ vs H Q E, sp vs H Q E → vs.length = ps.length
  run : ∀ (A : Around) (outer : List Env) (s : Shared) (H : Hp) (args : Args) (us : List Value) (vs : List V) (Q : VK) (E : XK), A.guards = some [] → Room k A → Env0 P w K mg base A outer s H → BindsTo s fd args (ps.zip us) → Vals vs us → sp vs H Q E →
    codeAny (model P w) A (.call (.ref f) args) (CR CX0 outer P w H s Q E) s
section
variable {P : Program} {w : World} {K : PySem.W.Frag} {mg : Str → Option Value} {base : Heap}
/-- a def by its body, the guards told -/
theorem gok {x qual : Str} {st : Stmt} {f : Addr} {fd : FuncData} {N ps : List Str} {k : Nat} {sp : Sp} (F : Fun K x qual st f fd) (S : FnScope N ps (defScope st)) (len : ∀ vs H Q E, sp vs H Q E → vs.length = ps.length)
    (walk : ∀ (cdv : Value) (A : Around) (outer : List Env) (s : Shared) (H : Hp) (vs : List V) (Q : VK) (E : XK), A.guards = some [] → Room k (A.deeper (envOfC qual (defScope st) s.heap.objs.size f cdv)) → sp vs H Q E →
      ∃ t, PSs (cxOf CX0 P w K mg base N qual (defScope st) f cdv A outer s H E).nox (defBody st) t ∧ t { nx := fun _ H' => Q .non H', rt := Q } (start N vs) H) : GnOk P w K mg base (k + 1) f fd ps sp := by
  obtain ⟨oc, od, kV, doc, pm, an, cdv, ct, osl, rfl, lk, hcd⟩ := F.ex
  refine ⟨len, fun A outer s H args us vs Q E hg hr e0 hb r hsp => ?_⟩
  have K0 : K.In s.heap := e0.mod.kin.keeps fun b o e => (e0.bs b o e).1
  have L0 : s.heap.NoLimit := e0.mod.nolimit.keeps fun b o e => (e0.bs b o e).1
  have each : ∀ y ∈ ps.zip us, (defScope st).names.lookup y.1 = some .local ∨ ((defScope st).names.lookup y.1 = some .cell ∧ ((cellsFrom (s.heap.objs.size + 1) (defScope st).names []).lookup y.1).isSome = true) := by
    rintro ⟨n, v⟩ hy
    exact (S.par n (List.of_mem_zip hy).1).imp id fun q => ⟨q, PySem.W.cellsFrom_some _ _ _ (.inl q)⟩
  refine codeAny_call_function hr.depth (K0 _ _ lk) rfl S.co S.gen rfl (PySem.W.codeRec_of K0 hcd) (hb _ _ _ _ (wpAny_newFunctionEnv_cells S.kind each fun env he s1 z => ?_))
  subst he
  refine ⟨L0.keeps z.toInCall.keep, codeAny_func ?_⟩
  obtain ⟨t, ht, hq⟩ := walk cdv A outer s H vs Q E hg (hr.deeper _) hsp
  have I : L2.Inv (cxOf CX0 P w K mg base N qual (defScope st) f cdv A outer s H E) [] (start N vs) H s1 := inv_start S hr.hd e0 (len _ _ _ _ hsp) r z
  refine wpAny_mono (ht.nox.run [] s1 (start N vs) H _ I hq) (fun fl s' hs => ?_) fun e s' hs => hs
  rcases fl with _ | _ | _ | u
  · obtain ⟨_, H', J, q⟩ := hs
    exact ⟨V.non, H', J.os, J.bare, J.base, J.hok, rfl, q⟩
  · exact hs.choose_spec.choose_spec.2.elim
  · exact hs.choose_spec.choose_spec.2.elim
  · obtain ⟨v, _, H', J, rv, q⟩ := hs
    exact ⟨v, H', J.os, J.bare, J.base, J.hok, rv, q⟩
end
section
variable {X : Cx} {k : Nat} {f : Addr} {fd : FuncData} {ps : List Str} {sp : Sp} {E : XK} {x : Str} {p pos : Pos} {e : Expr} {es : List Expr} {t : TA}
theorem pe_callG (F : GnOk X.prog X.w X.K X.mg X.base k f fd ps sp) (hgd : X.A.guards = some []) (hr : Room k X.A) (hg : Gl X x) (hm : X.mg x = some (.ref f)) (hk : PySem.W.keepIn X.K (.ref f) = true) (hb : Binds X.K fd ps []) (ha : PA X (e :: es) t)
    (hdb : (x == ("__debug__" : Str)) = false := by decide) (he : starEach (e :: es) X.env = (false, eval e X.env) :: starEach es X.env := by rfl) (hpl : (backTo pos (starEach es X.env)).any (·.1) = false := by rfl) :
    PE X (.Call (.Name x p) (e :: es) [] pos) (tCall sp [] E0 t) := by
  refine ⟨fun pins s σ H Q I h => wpAny_Call_Name_kw (ld_glob I hg hm ?_ hdb)⟩
  refine PySem.W.callWith_K (h₀ := X.base) I.ok.mod.kin hk (thn (ha.run pos pins s σ H _ I h) fun us s1 ⟨vs, H1, I1, r, q⟩ => ⟨I1.kIn, ?_⟩) he hpl
  have q : sp vs H1 Q E0 := by
    have z : sp (vs ++ []) H1 Q E0 := q
    rwa [List.append_nil] at z
  have hl : us.length = ps.length := r.length.symm.trans (F.len _ _ _ _ q)
  have hb' := hb s1 us I1.kIn (by rw [List.append_nil]; exact hl)
  rw [List.append_nil] at hb'
  refine wpAny_call (codeAny_mono (F.run X.A X.stack s1 H1 ⟨us, []⟩ us vs Q E0 hgd hr I1.env0 hb' r q) fun r' s' hq => ?_)
  rcases r' with e' | fl
  · exact hq.elim
  · rcases fl with _ | _ | _ | u
    · exact hq.elim
    · exact hq.elim
    · exact hq.elim
    · exact I1.after hq
/-- repr(v), v data at any depth -/
def rReprD (K : PySem.W.Frag) : List V → Hp → VK → Prop := fun vs H Q => ∃ (v : V) (d : PyData), vs = [v] ∧ Dp K H v d ∧ d.showable = true ∧ d.hasDict = false ∧ d.depth ≤ 64 ∧ d.shown.length ≤ sizeLine ∧ Q (.str d.shown) H
theorem cr_reprD (hgd : X.A.guards = some []) (hu : X.A.units + 66 < cLine) : CallR X (.builtin "repr") (rReprD X.K) := by
  intro pins s σ H vs us Q I r h
  obtain ⟨v, d, rfl, hd, sh, nd, dp, sz, q⟩ := h
  obtain ⟨u, rfl, ru⟩ := vals1 r
  obtain ⟨as, rd⟩ := Dp.reads I d v u hd ru
  cases hd with
  | non => cases ru; exact PySem.P.repr_of_none ⟨.str "None", H, I.tok _, ⟨_, rfl⟩, by simpa [PyData.shown] using q⟩
  | bl b => cases ru; exact PySem.P.repr_of_bool ⟨.str (if b then "True" else "False"), H, I.tok _, ⟨_, rfl⟩, by simpa [PyData.shown] using q⟩
  | int i =>
    obtain ⟨t, rfl⟩ := ru
    exact PySem.P.repr_of_int (by simpa [PyData.showable] using sh) ⟨.str (toString i), H, I.tok _, ⟨_, rfl⟩, by simpa [PyData.shown] using q⟩
  | str x =>
    obtain ⟨t, rfl⟩ := ru
    exact PySem.P.repr_of_str ⟨.str (reprText x), H, I.tok _, ⟨_, rfl⟩, by simpa [PyData.shown] using q⟩ (by simpa [PyData.shown] using sz)
  | lst a b =>
    cases ru
    exact PySem.repr_of_reads' rd sh (fun e => by rw [nd] at e; cases e) hgd (by omega) (fun _ _ e => e) (fun h' u tk k => ⟨.str _, H, I.kept (t' := tk) k, ⟨u, rfl⟩, q⟩) sz
  | tup a b =>
    cases ru
    exact PySem.repr_of_reads' rd sh (fun e => by rw [nd] at e; cases e) hgd (by omega) (fun _ _ e => e) (fun h' u tk k => ⟨.str _, H, I.kept (t' := tk) k, ⟨u, rfl⟩, q⟩) sz
end
/-- the law's own call, its promise with the guards told -/
theorem law_callG {P : Program} {w : World} {K : PySem.W.Frag} {mg mb : Str → Option Value} {k : Nat} {fa a : Addr} {fd : FuncData} {x : Str} {sp : Sp} {s₁ : Shared} {vs : List Value} {ns : List Int}
    (KX : K.In s₁.heap) (hns : s₁.heap.Ns mainGlobals mg) (hb : s₁.heap.Ns builtinsNs mb) (hbb : ∀ x : Str, x ≠ "__name__" → mb x = bootBuiltins x) (hlim : s₁.heap.NoLimit) (hg : s₁.gens = #[])
    (ha : s₁.heap.get? a = some { cls := .type "list", data := .seq vs.toArray }) (hi : IntsAre vs ns) (hl : ns.length ≤ sizeLine) (hr : Room k callerA)
    (F : ∀ base : Heap, K.In base → base.Ns mainGlobals mg → GnOk P w K mg base k fa fd [x] sp) (bind : ∀ (s : Shared) (u : Value), BindsTo s fd ⟨[u], []⟩ [(x, u)])
    (ask : ∀ H : Hp, Only H → SqL K H a (ns.map V.int) → sp [.ref a] H (fun v _ => v = .bl true) E0) :
    codeAny (model P w) callerA (.call (.ref fa) ⟨[.ref a], []⟩) (fun r s' => r = .ok (.ret (.bool true)) ∧ OldK s₁.heap s'.heap ∧ s'.os = s₁.os ∧ AllBare s'.gens) s₁ := by
  have rv := vals_ints hi
  have lenV := hi.length
  have from_ : ∀ H : Hp, Only H → SqL K H a (ns.map V.int) → HOk P w H s₁.heap → (∀ b, H b ≠ none → b = a ∧ K.lookup a = none) →
      codeAny (model P w) callerA (.call (.ref fa) ⟨[.ref a], []⟩) (fun r s' => r = .ok (.ret (.bool true)) ∧ OldK s₁.heap s'.heap ∧ s'.os = s₁.os ∧ AllBare s'.gens) s₁ := by
    intro H only hS hok hA
    have free : ∀ {b : Addr} {o : Obj}, s₁.heap.get? b = some o → (b = a → False) → H b = none := fun {b o} _ n => by
      cases q : H b with
      | none => rfl
      | some u => exact (n (hA b (by rw [q]; simp)).1).elim
    have low : ∀ {b : Addr} {o : Obj}, s₁.heap.get? b = some o → H b = none → (hidT s₁.heap H).get? b = some o := fun e n => hidT_get e n
    have names : ∀ {b : Addr} {m : Str → Option Value}, s₁.heap.Ns b m → (hidT s₁.heap H).Ns b m := fun {b m} ⟨o, es, ep, e, d, r⟩ =>
      ⟨o, es, ep, low e (free e fun z => by subst z; rw [ha] at e; cases e; cases d), d, r⟩
    have hK : K.In (hidT s₁.heap H) := fun b o e => low (KX b o e) (by
      cases q : H b with
      | none => rfl
      | some u =>
        obtain ⟨z, zk⟩ := hA b (by rw [q]; simp)
        subst z
        rw [zk] at e; cases e)
    have M : Mod K mg (hidT s₁.heap H) := ⟨hK, names hns, ⟨mb, names hb, hbb⟩, let ⟨mc, h1, h2⟩ := hlim; ⟨mc, names h1, h2⟩⟩
    have e0 : Env0 P w K mg (hidT s₁.heap H) callerA [] s₁ H := ⟨rfl, M, fun b o e => of_hidT e, Nat.le_of_eq (hidT_size _ _), trivial, fun b z => absurd (show b ∈ ([] : List Addr) from z) (by simp), hok, .of_eq hg⟩
    refine codeAny_mono ((F _ hK (names hns)).run callerA [] s₁ H ⟨[.ref a], []⟩ [.ref a] [.ref a] _ _ rfl hr e0 (bind s₁ (.ref a)) (.cons rfl .nil) (ask H only hS)) fun r s' h => ?_
    rcases r with e | fl
    · exact h.elim
    · rcases fl with _ | _ | _ | u
      · exact h.elim
      · exact h.elim
      · exact h.elim
      · obtain ⟨v, H', os, bare, un, hok', r', q⟩ := h
        obtain rfl : v = .bl true := q
        obtain rfl : u = Value.bool true := r'
        refine ⟨rfl, OldK.of_keep fun b o e => ?_, os, bare⟩
        cases q : H b with
        | none => exact un.keep b o e q (by intro z; exact absurd (show b ∈ ([] : List Addr) from z) (by simp)) (by simp)
        | some u =>
          rcases only b with z | ⟨ob, xs, z⟩
          · rw [q] at z; cases z
          · obtain ⟨e1, _⟩ := hok b _ z
            obtain ⟨e2, _⟩ := hok' b _ (un.frzs b ob _ z)
            rw [e] at e1; cases e1
            exact e2
  cases hk : K.lookup a with
  | some o =>
    have e := KX a o hk
    rw [ha] at e
    cases e
    exact from_ (fun _ => none) (fun _ => .inl rfl) (.inr ⟨_, vs.toArray, _, hk, rfl, rfl, rfl, by rw [List.size_toArray, lenV]; exact hl, by simpa using rv⟩) (fun b u z => nomatch (show (none : Option HO) = some u from z)) fun b z => absurd rfl z
  | none =>
    have at_ : ∀ b, (fun b => if b = a then some (HO.frz { cls := .type "list", data := .seq vs.toArray } (.lst (ns.map V.int))) else none) b ≠ none → b = a := fun b z => by
      by_cases hb : b = a
      · exact hb
      · exact absurd (if_neg hb) z
    refine from_ _ (fun b => ?_) (.inl (.inr ⟨_, if_pos rfl⟩)) (fun b u z => ?_) fun b z => ⟨at_ b z, hk⟩
    · by_cases hb : b = a
      · exact .inr ⟨_, _, if_pos hb⟩
      · exact .inl (if_neg hb)
    · have hb := at_ b (fun e => by have y := z.symm.trans e; cases y)
      subst hb
      have z' := (if_pos rfl).symm.trans z
      cases z'
      exact ⟨ha, by rw [List.length_map]; exact hl, vs, _, rv, ha⟩
theorem walk_ofG {l : PySem.W.OpenLaw} {n k : Nat} {q : Program} {loose : List Str} {XP : (Str → Option Value) → Heap → Prop} {YP : World → Heap → Prop} {d : DefRec} {K : Params → PySem.W.Frag} {sp : PySem.W.Frag → Sp} {x : Str}
    (hn : l.most = some n) (hn2 : n ≤ sizeLine) (hdf : d.params.defaults = []) (hr : Room k callerA) (hY : ∀ (w : World) (h : Heap), YP w h → (K w.params).In h)
    (F : ∀ (w : World) (mg : Str → Option Value) (fa : Addr) (h : Heap), (K w.params).In h → h.Ns mainGlobals mg → mg d.name = some (.ref fa) →
      ∃ fd : FuncData, (∀ (s : Shared) (u : Value), BindsTo s fd ⟨[u], []⟩ [(x, u)]) ∧ ∀ base : Heap, (K w.params).In base → base.Ns mainGlobals mg → GnOk l.prog w (K w.params) mg base k fa fd [x] (sp (K w.params)))
    (ask : ∀ (K : PySem.W.Frag) (H : Hp) (a : Addr) (ns : List Int), ns.length ≤ n → Only H → SqL K H a (ns.map V.int) → sp K [.ref a] H (fun v _ => v = .bl true) E0) :
    PySem.W.WalkO q loose XP YP l.row.toRowW d [] (fun f vs => PySem.call f vs) := by
  refine Att.attach_call hn hdf fun w s₀ s₁ mg mb fa o pm cd doc a vs ns G Y ho hd hcd hmg hobj hints hlen hg => ?_
  obtain ⟨fd, hb, hF⟩ := F w mg fa _ (hY w _ Y) G.T.g hmg
  exact law_callG (hY w _ Y) G.T.g G.T.b G.T.builtins G.T.nolimit hg hobj hints (Nat.le_trans hlen hn2) hr hF hb fun H hO hS => ask _ H a ns hlen hO hS
end Rp

namespace Rp
open PySem L2
def top (i : Nat) : Stmt := PySem.Challenge.pw_ringproofs_k04_put_all_at_once.main.body.getD i (.Pass ⟨0, 0, 0, 0⟩)
abbrev sNumber : Stmt := top 3
abbrev sVariable : Stmt := top 4
abbrev sShape : Stmt := top 5
abbrev sTerm : Stmt := top 6
abbrev sParts : Stmt := top 7
abbrev sInside : Stmt := top 8
abbrev sFold : Stmt := top 9
abbrev sIsPair : Stmt := top 10
abbrev sIsBinding : Stmt := top 11
abbrev sPut : Stmt := top 12
abbrev sBox : Stmt := top 14
abbrev sTake : Stmt := top 15
abbrev sPick : Stmt := top 16
abbrev sSame : Stmt := top 17
abbrev sTree : Stmt := top 18
abbrev sFresh : Stmt := top 19
abbrev sPutL : Stmt := top 20
abbrev sPairs : Stmt := top 21
abbrev sIsTree : Stmt := top 22
abbrev sIsPairs : Stmt := top 23
abbrev sOdd : Stmt := top 24
abbrev sRight : Stmt := top 25
abbrev sLaw : Stmt := top 26
end Rp

namespace Rp
open PySem L2
/-! ### promises -/
def spBox (K : PySem.W.Frag) : Sp := fun vs H Q _ => ∃ (a : Addr) (ns : List Int) (k : Int), vs = [.ref a, .int k] ∧ SqL K H a (ns.map V.int) ∧ ns.length ≤ 63 ∧ 0 ≤ k ∧ k ≤ 63 ∧
  ∀ (b : Addr) (H' : Hp), H b = none → BoxAt H' b 0 → Same H H' → Q (.ref b) H'
def spTake : Sp := fun vs H Q _ => ∃ (b : Addr) (c : Int) (j : Nat), vs = [.ref b, .int c] ∧ BoxAt H b j ∧ j ≤ 1000000 ∧ 1 ≤ c ∧ c ≤ 1000000 ∧
  ∀ (r : Int) (H' : Hp), 0 ≤ r → r < c → BoxAt H' b (j + 1) → But b H H' → Q (.int r) H'
def spPick : Sp := fun vs H Q _ => ∃ (b p : Addr) (xs : List V) (j : Nat), vs = [.ref b, .ref p] ∧ BoxAt H b j ∧ j ≤ 1000000 ∧ H p = some (.lst xs) ∧ p ≠ b ∧ 1 ≤ xs.length ∧ xs.length ≤ 1000000 ∧
  ∀ (v : V) (H' : Hp), v ∈ xs → BoxAt H' b (j + 1) → But b H H' → Q v H'
section
variable {P : Program} {w : World} {K : PySem.W.Frag} {mg : Str → Option Value} {base : Heap}
theorem fmod_pos {a c : Int} (h : 0 < c) : 0 ≤ a.fmod c ∧ a.fmod c < c := by
  rw [Int.fmod_eq_emod_of_nonneg a (Int.le_of_lt h)]
  exact ⟨Int.emod_nonneg a (by omega), Int.emod_lt_of_pos a h⟩
theorem fdiv_pos {a c : Int} (h : 0 < c) (ha : 0 ≤ a) : 0 ≤ a.fdiv c := by
  rw [Int.fdiv_eq_ediv_of_nonneg a (Int.le_of_lt h)]
  exact Int.ediv_nonneg ha (Int.le_of_lt h)
theorem scBox : FnScope ["_law_script", "_law_k", "_law_cell"] ["_law_script", "_law_k"] (defScope sBox) := ⟨rfl, rfl, rfl, by decide +kernel, rfl, by decide +kernel, by decide +kernel⟩
theorem ok_box {f : Addr} {fd : FuncData} (F : Fun K "_law_box" "_law_box" sBox f fd) (mLen : mg "len" = none) (mAbs : mg "abs" = none) (mInt : mg "int" = none) :
    FnOk P w K mg base CX0 1 f fd ["_law_script", "_law_k"] (spBox K) := by
  refine F.ok scBox (fun vs H Q E h => ?_) (fun cdv A outer s H vs Q E hr h => ?_)
  · obtain ⟨a, ns, k, rfl, _⟩ := h
    rfl
  obtain ⟨a, ns, k, rfl, hS, hl, h0, h1, q⟩ := h
  refine ⟨_, pss_cons (ps_set (i := 2) scBox.nd rfl (Or.inl rfl) pe_int)
    (pss_cons (ps_if (pt_cmpR op_lt (pv 1) (pe_callB call_len_seq (by rfl) mLen PySem.boot_len (pa_cons (pv 0) pa_nil)) (nomark _))
      (pss_one (ps_set (i := 2) scBox.nd rfl (Or.inl rfl) (pe_ix ix_list (pv 0) (pv 1) (fun _ _ => rfl)))) pss_nil)
    (pss_one (ps_ret (pe_lst (pa_cons
      (pe_op op_mul (pe_callB call_abs (by rfl) mAbs (by decide +kernel) (pa_cons (pv 2) pa_nil))
        (pe_callTy call_int1 (by rfl) mInt (by decide +kernel) (pa_cons (pe_cmpR op_ge (pe_callB call_abs (by rfl) mAbs (by decide +kernel) (pa_cons (pv 2) pa_nil)) (pe_op op_pow pe_int pe_int) (nomark _)) pa_nil)))
      (pa_cons (pe_op op_add (pe_op op_add (pe_op op_modN (pv 2) pe_int) (pe_op op_mul pe_int (pv 1))) pe_int) (pa_cons pe_int pa_nil))))))), ?_⟩
  refine ⟨_, rfl, _, rfl, a, _, rfl, .inl hS, _, _, rfl, rfl, _, rfl, ?_⟩
  have two : ∀ (b : Bool), -(2 ^ 64) < (if b = true then (1 : Int) else 0) ∧ (if b = true then (1 : Int) else 0) < 2 ^ 64 ∧ 0 ≤ (if b = true then (1 : Int) else 0) := by decide
  have pos : ∀ c : Int, 0 ≤ if c < 0 then -c else c := fun c => by split <;> omega
  have m := fun c : Int => fmod_pos (a := c) (c := 2147483629) (by decide)
  refine ite2 (fun c => ?_) (fun c => ?_)
  · have hk : k.toNat < ns.length := by
      have z : k < (((ns.map V.int).length : Nat) : Int) := of_decide_eq_true c
      rw [List.length_map] at z
      omega
    have it : atI (ns.map V.int) k = some (.int ns[k.toNat]) := at_of (j := k.toNat) (by omega) (by rw [List.getElem?_map, List.getElem?_eq_getElem hk]; rfl)
    refine ⟨_, rfl, _, rfl, a, _, _, _, rfl, rfl, hS, it, ?_⟩
    refine ⟨_, rfl, _, rfl, _, rfl, _, rfl, _, _, rfl, rfl, ⟨by decide, by decide, by decide⟩, _, _, rfl, rfl, .inr ⟨_, rfl, ?_⟩⟩
    refine ⟨_, _, rfl, rfl, .inr ⟨(two _).1, (two _).2.1⟩, _, rfl, _, _, rfl, rfl, (fun h => absurd h (by decide)), _, rfl, _, _, rfl, rfl, .inl ⟨by decide, by decide⟩, _, _, rfl, rfl, _, _, rfl, rfl, (by show 3 ≤ sizeLine; decide), fun b hb => ?_⟩
    have mm := m ns[k.toNat]
    exact q b _ hb ⟨_, _, _, upd_same, Int.mul_nonneg (pos _) (two _).2.2, by omega, by omega, by decide, by decide⟩ (same_new hb _)
  · refine ⟨_, rfl, _, rfl, _, rfl, _, rfl, _, _, rfl, rfl, ⟨by decide, by decide, by decide⟩, _, _, rfl, rfl, .inr ⟨_, rfl, ?_⟩⟩
    refine ⟨_, _, rfl, rfl, .inr ⟨(two _).1, (two _).2.1⟩, _, rfl, _, _, rfl, rfl, (fun h => absurd h (by decide)), _, rfl, _, _, rfl, rfl, .inl ⟨by decide, by decide⟩, _, _, rfl, rfl, _, _, rfl, rfl, (by show 3 ≤ sizeLine; decide), fun b hb => ?_⟩
    have mm := m 0
    exact q b _ hb ⟨_, _, _, upd_same, Int.mul_nonneg (pos _) (two _).2.2, by omega, by omega, by decide, by decide⟩ (same_new hb _)
theorem scTake : FnScope ["_law_box_here", "_law_count", "_law_found", "_law_once"] ["_law_box_here", "_law_count"] (defScope sTake) := ⟨rfl, rfl, rfl, by decide +kernel, rfl, by decide +kernel, by decide +kernel⟩
theorem ok_take {f : Addr} {fd : FuncData} (F : Fun K "_law_take" "_law_take" sTake f fd) : FnOk P w K mg base CX0 1 f fd ["_law_box_here", "_law_count"] spTake := by
  refine F.ok scTake (fun vs H Q E h => ?_) (fun cdv A outer s H vs Q E hr h => ?_)
  · obtain ⟨b, c, j, rfl, _⟩ := h
    rfl
  obtain ⟨b, c, j, rfl, B, hj, h1, h2, q⟩ := h
  obtain ⟨x, y, z, hb, x0, y0, y1, z0, z1⟩ := id B
  have s0 : SqL K H b [.int x, .int y, .int z] := .inl (.inl hb)
  have a0 : ∀ u v t : Int, atI [V.int u, .int v, .int t] 0 = some (.int u) := fun u v t => at_of (j := 0) rfl rfl
  have a1 : ∀ u v t : Int, atI [V.int u, .int v, .int t] 1 = some (.int v) := fun u v t => at_of (j := 1) rfl rfl
  have a2 : ∀ u v t : Int, atI [V.int u, .int v, .int t] 2 = some (.int t) := fun u v t => at_of (j := 2) rfl rfl
  refine ⟨_, pss_cons (ps_if (pt_cmpR op_gt (pe_ix ix_list (pv 0) pe_int (fun _ _ => rfl)) pe_int (nomark _))
      (pss_cons (ps_set (i := 2) scTake.nd rfl (Or.inl rfl) (pe_op op_modN (pe_ix ix_list (pv 0) pe_int (fun _ _ => rfl)) (pv 1)))
      (pss_cons (ps_asg (pe_op op_fdivN (pe_ix ix_list (pv 0) pe_int (fun _ _ => rfl)) (pv 1)) (pg_sub (pv 0) pe_int set_list))
      (pss_one (ps_ret (pv 2))))) pss_nil)
    (pss_cons (ps_asg (pe_op op_add (pe_ix ix_list (pv 0) pe_int (fun _ _ => rfl)) pe_int) (pg_sub (pv 0) pe_int set_list))
    (pss_cons (ps_set (i := 3) scTake.nd rfl (Or.inl rfl) (pe_op op_modN (pe_op op_pow (pe_op op_add (pe_ix ix_list (pv 0) pe_int (fun _ _ => rfl)) (pe_op op_mul pe_int (pe_ix ix_list (pv 0) pe_int (fun _ _ => rfl)))) pe_int) pe_int))
    (pss_one (ps_ret (pe_op op_modN (pe_op op_fdivN (pe_op op_modN (pe_op op_add (pe_op op_mul (pv 3) (pe_op op_add (pe_op op_modN (pv 3) pe_int) pe_int)) (pe_op op_mul (pe_ix ix_list (pv 0) pe_int (fun _ _ => rfl)) pe_int)) pe_int) pe_int) (pv 1)))))), ?_⟩
  refine ⟨_, rfl, b, _, _, _, rfl, rfl, s0, a0 _ _ _, _, _, rfl, rfl, _, rfl, ?_⟩
  refine ite2 (fun d => ?_) (fun d => ?_)
  · refine ⟨_, rfl, b, _, _, _, rfl, rfl, s0, a0 _ _ _, _, rfl, _, _, rfl, rfl, (by omega), ?_⟩
    refine ⟨_, rfl, b, _, _, _, rfl, rfl, s0, a0 _ _ _, _, rfl, _, _, rfl, rfl, ⟨by omega, by omega⟩, ?_⟩
    refine ⟨_, rfl, b, _, _, 0, rfl, rfl, hb, rfl, ?_⟩
    have m := fmod_pos (a := x) (c := c) (by omega)
    exact ⟨_, rfl, q _ _ m.1 m.2 ⟨_, _, _, upd_same, fdiv_pos (by omega) x0, y0, y1, z0, by omega⟩ (but_upd _)⟩
  · refine ⟨_, rfl, b, _, _, _, rfl, rfl, s0, a2 _ _ _, _, _, rfl, rfl, ?_⟩
    refine ⟨_, rfl, b, _, _, 2, rfl, rfl, hb, rfl, ?_⟩
    have hb' : (upd H b (.lst [.int x, .int y, .int (z + 1)])) b = some (.lst [.int x, .int y, .int (z + 1)]) := upd_same
    have s1 : SqL K (upd H b (.lst [.int x, .int y, .int (z + 1)])) b [.int x, .int y, .int (z + 1)] := .inl (.inl hb')
    refine ⟨_, rfl, b, _, _, _, rfl, rfl, s1, a1 _ _ _, _, rfl, b, _, _, _, rfl, rfl, s1, a2 _ _ _, _, _, rfl, rfl, .inl ⟨by decide, by decide⟩, _, _, rfl, rfl, _, _, rfl, rfl, ⟨by decide, by decide, by omega⟩, _, _, rfl, rfl, (fun h => absurd h (by decide)), ?_⟩
    generalize (y + 39373 * (z + 1)) ^ Int.toNat 5 = g
    have m := fmod_pos (a := g) (c := 2147483647) (by decide)
    refine ⟨_, rfl, _, rfl, _, _, rfl, rfl, (fun h => absurd h (by decide)), _, _, rfl, rfl, _, _, rfl, rfl, .inl ⟨by omega, by omega⟩, _, rfl, b, _, _, _, rfl, rfl, s1, a2 _ _ _, _, _, rfl, rfl, .inl ⟨by omega, by omega⟩, _, _, rfl, rfl, _, _, rfl, rfl, (fun h => absurd h (by decide)), _, _, rfl, rfl, ⟨by decide, by decide⟩, _, rfl, _, _, rfl, rfl, (by omega), ?_⟩
    generalize Int.fdiv _ _ = e
    have m2 := fmod_pos (a := e) (c := c) (by omega)
    exact q _ _ m2.1 m2.2 ⟨_, _, _, upd_same, x0, y0, y1, by omega, by omega⟩ (but_upd _)
theorem scPick : FnScope ["_law_box_here", "_law_things"] ["_law_box_here", "_law_things"] (defScope sPick) := ⟨rfl, rfl, rfl, by decide +kernel, rfl, by decide +kernel, by decide +kernel⟩
theorem ok_pick {f fT : Addr} {fd fdT : FuncData} (F : Fun K "_law_pick" "_law_pick" sPick f fd) (FT : Fun K "_law_take" "_law_take" sTake fT fdT) (bT : Binds K fdT ["_law_box_here", "_law_count"] []) (mT : mg "_law_take" = some (.ref fT)) (mLen : mg "len" = none) :
    FnOk P w K mg base CX0 2 f fd ["_law_box_here", "_law_things"] spPick := by
  have GT : FnOk P w K mg base CX0 1 fT fdT ["_law_box_here", "_law_count"] spTake := ok_take FT
  refine F.ok scPick (fun vs H Q E h => ?_) (fun cdv A outer s H vs Q E hr h => ?_)
  · obtain ⟨b, p, xs, j, rfl, _⟩ := h
    rfl
  obtain ⟨b, p, xs, j, rfl, B, hj, hp, ne, l1, l2, q⟩ := h
  refine ⟨_, pss_one (ps_ret (pe_ix ix_list (pv 1) (pe_call GT hr rfl mT FT.kp bT .nil pass0 (pa_cons (pv 0) (pa_cons (pe_callB call_len_seq (by rfl) mLen PySem.boot_len (pa_cons (pv 1) pa_nil)) pa_nil))) (fun _ _ => rfl))), ?_⟩
  refine ⟨_, rfl, _, rfl, _, rfl, p, _, rfl, .inl (.inl (.inl hp)), b, _, j, rfl, B, hj, by omega, by omega, fun r H' r0 r1 B' o => ?_⟩
  have hr' : r.toNat < xs.length := by omega
  refine ⟨p, _, _, _, rfl, rfl, .inl (.inl (o _ _ hp ne)), at_of (j := r.toNat) (v := xs[r.toNat]) (by omega) (List.getElem?_eq_getElem hr'), ?_⟩
  exact q _ _ (List.getElem_mem hr') B' o
end
end Rp

namespace Rp
open PySem L2
def spTree (n : Nat) : Sp := fun vs H Q _ => ∃ (b p : Addr) (ns : List Int) (j : Nat) (room : Int), vs = [.ref b, .int room, .ref p] ∧ BoxAt H b j ∧ j + room.toNat ≤ 1000000 ∧ H p = some (.lst (ns.map V.int)) ∧ p ≠ b ∧ ns.length ≤ 100 ∧ 1 ≤ room ∧ room ≤ (n : Int) ∧
  ∀ (v : V) (t : Tm) (H' : Hp), TmAt H' v t → t.size = room.toNat → (∀ m ∈ t.nums, m ∈ ns) → BoxAt H' b (j + room.toNat) → But b H H' → Q v H'
def spFresh : Sp := fun vs H Q _ => ∃ (b : Addr) (j : Nat), vs = [.ref b] ∧ BoxAt H b j ∧ j + 9 ≤ 1000000 ∧
  ∀ (p : Addr) (ns : List Int) (H' : Hp), H p = none → H' p = some (.lst (ns.map V.int)) → (∀ m ∈ ns, 0 ≤ m ∧ m ≤ 99) → ns.length ≤ 4 → BoxAt H' b (j + 9) → But b H H' → Q (.ref p) H'
def spLeaves (n : Nat) : Sp := fun vs H Q _ => ∃ (v : V) (t : Tm), vs = [v] ∧ TmAt H v t ∧ t.size ≤ 1000 ∧ t.deep < n ∧ ∀ (p : Addr) (H' : Hp), H p = none → H' p = some (.lst t.signs) → Same H H' → Q (.ref p) H'
section
variable {P : Program} {w : World} {K : PySem.W.Frag} {mg : Str → Option Value} {base : Heap}
theorem none_left {k : Nat} {f : Addr} {fd : FuncData} {ps : List Str} {sp : Sp} (no : ∀ vs H Q E, ¬ sp vs H Q E) : FnOk P w K mg base CX0 k f fd ps sp :=
  ⟨fun vs H Q E h => absurd h (no vs H Q E), fun A outer s H args us vs Q E _ _ _ _ h => absurd h (no vs H Q E)⟩
theorem v1_ne {x y : Int} (c : ¬ decide (V.int x = V.int y) = true) : x ≠ y := fun e => c (by rw [e]; simp)
theorem v1_eq {x y : Int} (c : decide (V.int x = V.int y) = true) : x = y := V.int.inj (of_decide_eq_true c)
theorem scTree : FnScope ["_law_box_here", "_law_room", "_law_fresh_here", "_law_left"] ["_law_box_here", "_law_room", "_law_fresh_here"] (defScope sTree) := ⟨rfl, rfl, rfl, by decide +kernel, rfl, by decide +kernel, by decide +kernel⟩
theorem ok_tree {n : Nat} {f fT fP : Addr} {fd fdT fdP : FuncData} (F : Fun K "_law_tree" "_law_tree" sTree f fd) (b3 : Binds K fd ["_law_box_here", "_law_room", "_law_fresh_here"] []) (mTree : mg "_law_tree" = some (.ref f))
    (G : FnOk P w K mg base CX0 (n + 2) f fd ["_law_box_here", "_law_room", "_law_fresh_here"] (spTree n))
    (FT : Fun K "_law_take" "_law_take" sTake fT fdT) (bT : Binds K fdT ["_law_box_here", "_law_count"] []) (mT : mg "_law_take" = some (.ref fT))
    (FP : Fun K "_law_pick" "_law_pick" sPick fP fdP) (bP : Binds K fdP ["_law_box_here", "_law_things"] []) (mP : mg "_law_pick" = some (.ref fP)) (mLen : mg "len" = none) (mList : mg "list" = none) :
    FnOk P w K mg base CX0 (n + 3) f fd ["_law_box_here", "_law_room", "_law_fresh_here"] (spTree (n + 1)) := by
  have GT : FnOk P w K mg base CX0 1 fT fdT ["_law_box_here", "_law_count"] spTake := ok_take FT
  have GP : FnOk P w K mg base CX0 2 fP fdP ["_law_box_here", "_law_things"] spPick := ok_pick FP FT bT mT mLen
  refine F.ok scTree (fun vs H Q E h => ?_) (fun cdv A outer s H vs Q E hr h => ?_)
  · obtain ⟨b, p, ns, j, room, rfl, _⟩ := h
    rfl
  obtain ⟨b, p, ns, j, room, rfl, B, hj, hp, pb, hl, r1, r2, q⟩ := h
  have hr1 : Room 1 _ := hr.mono (by omega)
  have hr2 : Room 2 _ := hr.mono (by omega)
  refine ⟨_, pss_cons (ps_if (pt_cmpR op_eq (pv 1) pe_int (nomark _)) (pss_one (ps_ret (pe_call GP hr2 rfl mP FP.kp bP .nil pass0
        (pa_cons (pv 0) (pa_cons (pe_op op_cat (pe_op op_rep (pe_callTy call_list_of (by rfl) mList (by decide +kernel) (pa_cons (pv 2) pa_nil)) pe_int) (pe_lst (pa_cons (pe_tup (pa_cons pe_str pa_nil)) pa_nil))) pa_nil))))) pss_nil)
    (pss_cons (ps_set (i := 3) scTree.nd rfl (Or.inl rfl) (pe_call GT hr1 rfl mT FT.kp bT .nil pass0 (pa_cons (pv 0) (pa_cons (pe_op op_sub (pv 1) pe_int) pa_nil))))
    (pss_cons (ps_if (pt_cmpR op_eq (pv 3) pe_int (nomark _)) (pss_one (ps_ret (pe_tup (pa_cons pe_str (pa_cons (pe_call G hr rfl mTree F.kp b3 .nil pass0 (pa_cons (pv 0) (pa_cons (pe_op op_sub (pv 1) pe_int) (pa_cons (pv 2) pa_nil)))) pa_nil))))) pss_nil)
    (pss_one (ps_ret (pe_tup (pa_cons pe_str (pa_cons (pe_call G hr rfl mTree F.kp b3 .nil pass0 (pa_cons (pv 0) (pa_cons (pv 3) (pa_cons (pv 2) pa_nil))))
      (pa_cons (pe_call G hr rfl mTree F.kp b3 .nil pass0 (pa_cons (pv 0) (pa_cons (pe_op op_sub (pe_op op_sub (pv 1) pe_int) (pv 3)) (pa_cons (pv 2) pa_nil)))) pa_nil)))))))), ?_⟩
  refine ⟨_, rfl, rfl, _, rfl, ?_⟩
  refine ite2 (fun c => ?_) (fun c => ?_)
  · -- a leaf
    have e1 : room = 1 := v1_eq c
    subst e1
    refine ⟨_, rfl, _, rfl, p, _, rfl, .inl (.inl (.inl hp)), fun l hl1 => ?_⟩
    refine ⟨l, _, _, rfl, rfl, upd_same, by decide, by decide, ?_, fun l2 hl2 => ?_⟩
    · rw [List.length_map]
      show ns.length * 2 ≤ sizeLine
      have : (1000 : Nat) ≤ sizeLine := by decide
      omega
    refine ⟨(by show 1 ≤ sizeLine; decide), fun t ht => ?_⟩
    refine ⟨(by show 1 ≤ sizeLine; decide), fun l3 hl3 => ?_⟩
    have z2 : upd (upd (upd H l (.lst (ns.map V.int))) l2 (.lst (List.replicate (Int.toNat 2) (ns.map V.int)).flatten)) t (.tup [.str "0"]) l2 = some (.lst (List.replicate (Int.toNat 2) (ns.map V.int)).flatten) := by
      rw [upd_ne (ne_of_none upd_same ht)]
      exact upd_same
    have ne3 : l2 ≠ l3 := ne_of_none z2 hl3
    refine ⟨l2, l3, _, _, rfl, rfl, by rw [upd_ne ne3]; exact z2, upd_same, ?_, fun l4 hl4 => ?_⟩
    · have : (1000 : Nat) ≤ sizeLine := by decide
      simp
      omega
    have s1 := same_new hl1 (.lst (ns.map V.int))
    have s2 := same_new hl2 (.lst (List.replicate (Int.toNat 2) (ns.map V.int)).flatten)
    have s3 := same_new ht (.tup [.str "0"])
    have s4 := same_new hl3 (.lst [.ref t])
    have s5 := same_new hl4 (.lst ((List.replicate (Int.toNat 2) (ns.map V.int)).flatten ++ [.ref t]))
    have sA : Same H _ := s1.trans (s2.trans (s3.trans (s4.trans s5)))
    obtain ⟨ys, hb⟩ := B.some
    refine ⟨b, l4, _, j, rfl, B.same sA, by omega, upd_same, ?_, by simp; omega, ?_, fun v H' hv B' o => ?_⟩
    · intro e
      subst e
      exact absurd ((s1.trans (s2.trans (s3.trans s4))) _ _ hb) (by rw [hl4]; intro z; cases z)
    · simp
      omega
    have hz := (s4.trans s5) _ _ (upd_same : upd (upd (upd H l (.lst (ns.map V.int))) l2 (.lst (List.replicate (Int.toNat 2) (ns.map V.int)).flatten)) t (.tup [.str "0"]) t = some (.tup [.str "0"]))
    rcases List.mem_append.mp hv with hv | hv
    · have hv' : v ∈ ns.map V.int := by
        rw [List.mem_flatten] at hv
        obtain ⟨l', h1, h2⟩ := hv
        rw [List.mem_replicate] at h1
        rw [← h1.2]
        exact h2
      obtain ⟨m, hm, rfl⟩ := List.mem_map.mp hv'
      exact q _ (.v m) H' (.v m) rfl (fun k hk => by simp [Tm.nums] at hk; subst hk; exact hm) B' ((but_of sA).trans o)
    · have ev : v = .ref t := by simpa using hv
      subst ev
      exact q _ .z H' (.z (o _ _ hz (ne_of hz (B.same sA).some.choose_spec (by intro z; cases z)))) rfl (fun k hk => by simp [Tm.nums] at hk) B' ((but_of sA).trans o)
  · have n1 : room ≠ 1 := v1_ne c
    refine ⟨_, rfl, _, rfl, _, _, rfl, rfl, b, _, j, rfl, B, by omega, by omega, by omega, fun left H1 l0 l1 B1 o1 => ?_⟩
    have hp1 := o1 _ _ hp pb
    refine ⟨_, rfl, rfl, _, rfl, ?_⟩
    refine ite2 (fun d => ?_) (fun d => ?_)
    · refine ⟨_, rfl, _, rfl, _, _, rfl, rfl, _, rfl, b, p, ns, j + 1, room - 1, rfl, B1, by omega, hp1, pb, hl, by omega, by omega, fun v t H2 T hs hm B2 o2 => ?_⟩
      refine ⟨(by show 2 ≤ sizeLine; decide), fun a ha => ?_⟩
      have sn := same_new ha (.tup [.str "s", v])
      refine q _ (.s t) _ (.s upd_same (T.same sn)) ?_ hm ((B2.same sn).more (by omega)) (o1.trans (o2.trans (but_of sn)))
      show t.size + 1 = _
      omega
    · have n2 : left ≠ 0 := v1_ne d
      refine ⟨_, rfl, _, rfl, _, rfl, b, p, ns, j + 1, left, rfl, B1, by omega, hp1, pb, hl, by omega, by omega, fun v t H2 T hs hm B2 o2 => ?_⟩
      refine ⟨_, rfl, _, rfl, _, _, rfl, rfl, _, rfl, _, _, rfl, rfl, _, rfl, b, p, ns, j + 1 + left.toNat, room - 1 - left, rfl, B2, by omega, o2 _ _ hp1 pb, pb, hl, by omega, by omega, fun v' t' H3 T' hs' hm' B3 o3 => ?_⟩
      refine ⟨(by show 3 ≤ sizeLine; decide), fun a ha => ?_⟩
      have sn := same_new ha (.tup [.str "f", v, v'])
      obtain ⟨ys, hb⟩ := B2.some
      refine q _ (.f t t') _ (.f upd_same ((T.but o3 hb).same sn) (T'.same sn)) ?_ ?_ ((B3.same sn).more (by omega)) (o1.trans (o2.trans (o3.trans (but_of sn))))
      · show t.size + t'.size + 1 = _
        omega
      · intro m h
        rcases List.mem_append.mp h with h | h
        · exact hm m h
        · exact hm' m h
theorem trees_ok {f fT fP : Addr} {fd fdT fdP : FuncData} (F : Fun K "_law_tree" "_law_tree" sTree f fd) (b3 : Binds K fd ["_law_box_here", "_law_room", "_law_fresh_here"] []) (mTree : mg "_law_tree" = some (.ref f))
    (FT : Fun K "_law_take" "_law_take" sTake fT fdT) (bT : Binds K fdT ["_law_box_here", "_law_count"] []) (mT : mg "_law_take" = some (.ref fT))
    (FP : Fun K "_law_pick" "_law_pick" sPick fP fdP) (bP : Binds K fdP ["_law_box_here", "_law_things"] []) (mP : mg "_law_pick" = some (.ref fP)) (mLen : mg "len" = none) (mList : mg "list" = none) :
    ∀ n : Nat, FnOk P w K mg base CX0 (n + 2) f fd ["_law_box_here", "_law_room", "_law_fresh_here"] (spTree n)
  | 0 => none_left fun vs H Q E h => by
    obtain ⟨b, p, ns, j, room, _, _, _, _, _, _, h1, h2, _⟩ := h
    omega
  | n + 1 => ok_tree F b3 mTree (trees_ok F b3 mTree FT bT mT FP bP mP mLen mList n) FT bT mT FP bP mP mLen mList
end
end Rp

namespace Rp
open PySem L2
section
variable {P : Program} {w : World} {K : PySem.W.Frag} {mg : Str → Option Value} {base : Heap}
theorem big1000 : (1000 : Nat) ≤ sizeLine := by decide
theorem scFresh : FnScope ["_law_box_here", "_law_found", "_law_turn", "_law_number"] ["_law_box_here"] (defScope sFresh) := ⟨rfl, rfl, rfl, by decide +kernel, rfl, by decide +kernel, by decide +kernel⟩
theorem ok_fresh {f fT : Addr} {fd fdT : FuncData} (F : Fun K "_law_fresh" "_law_fresh" sFresh f fd) (FT : Fun K "_law_take" "_law_take" sTake fT fdT) (bT : Binds K fdT ["_law_box_here", "_law_count"] []) (mT : mg "_law_take" = some (.ref fT))
    (mRange : mg "range" = none) (mInt : mg "int" = none) : FnOk P w K mg base CX0 2 f fd ["_law_box_here"] spFresh := by
  have GT : FnOk P w K mg base CX0 1 fT fdT ["_law_box_here", "_law_count"] spTake := ok_take FT
  refine F.ok scFresh (fun vs H Q E h => ?_) (fun cdv A outer s H vs Q E hr h => ?_)
  · obtain ⟨b, j, rfl, _⟩ := h
    rfl
  obtain ⟨b, j, rfl, B, hj, q⟩ := h
  refine ⟨_, pss_cons (ps_set (i := 1) scFresh.nd rfl (Or.inl rfl) (pe_lst pa_nil))
    (pss_cons (ps_for PassesOwn.never rfl (pi_range1 rfl mRange (pa_cons (pe_op op_add pe_int (pe_call GT hr rfl mT FT.kp bT .nil pass0 (pa_cons (pv 0) (pa_cons pe_int pa_nil)))) pa_nil)) (pg_name (i := 2) scFresh.nd rfl (Or.inl rfl))
      (pss_cons (ps_set (i := 3) scFresh.nd rfl (Or.inl rfl) (pe_ix ix_list (pe_lst (pa_cons (pv 2) (pa_cons (pe_call GT hr rfl mT FT.kp bT .nil pass0 (pa_cons (pv 0) (pa_cons pe_int pa_nil))) (pa_cons (pe_op op_sub pe_int (pv 2)) pa_nil))))
          (pe_call GT hr rfl mT FT.kp bT .nil pass0 (pa_cons (pv 0) (pa_cons pe_int pa_nil))) (fun _ _ => rfl)))
      (pss_one (ps_set (i := 1) scFresh.nd rfl (Or.inl rfl) (pe_op op_cat (pv 1) (pe_op op_rep (pe_lst (pa_cons (pv 3) pa_nil)) (pe_callTy call_int1 (by rfl) mInt (by decide +kernel) (pa_cons (pe_cmpR op_notIn_seq (pv 3) (pv 1) (by rfl)) pa_nil))))))))
    (pss_one (ps_ret (pv 1)))), ?_⟩
  refine ⟨(by show 0 ≤ sizeLine; decide), fun p0 hp0 => ?_⟩
  have s0 := same_new hp0 (.lst [])
  refine ⟨_, rfl, b, _, j, rfl, B.same s0, by omega, by decide, by decide, fun r H1 r0 r4 B1 o1 => ?_⟩
  obtain ⟨ys, hb⟩ := B.some
  have pb : p0 ≠ b := fun e => by subst e; rw [hb] at hp0; cases hp0
  refine ⟨_, _, rfl, rfl, _, rfl, by omega, by omega, for_range (lo := 0) (n := (1 + r).toNat) (fun i σ H2 => ∃ (p : Addr) (ns : List Int) (tv nv : Option V), σ = [some (.ref b), some (.ref p), tv, nv] ∧ H p = none ∧ p ≠ b ∧ H2 p = some (.lst (ns.map V.int)) ∧
      (∀ m ∈ ns, 0 ≤ m ∧ m ≤ 99) ∧ ns.length ≤ i ∧ BoxAt H2 b (j + 1 + 2 * i) ∧ But b H H2) ⟨p0, [], none, none, rfl, hp0, pb, o1 _ _ upd_same pb, (by simp), Nat.le_refl _, B1, (but_of s0).trans o1⟩ ?_ ?_⟩
  · rintro i σ H2 hi ⟨p, ns, tv, nv, rfl, hpn, pb', hp, hm, hl, B2, o2⟩
    refine ⟨_, rfl, _, rfl, b, _, _, rfl, B2, by omega, by decide, by decide, fun r1 H3 a0 a1 B3 o3 => ?_⟩
    refine ⟨_, rfl, _, _, rfl, rfl, (by show 3 ≤ sizeLine; decide), fun d hd => ?_⟩
    have s4 := same_new hd (.lst [V.int (0 + (i : Int)), V.int r1, V.int (99 - (0 + (i : Int)))])
    refine ⟨_, rfl, b, _, _, rfl, B3.same s4, by omega, by decide, by decide, fun r2 H5 c0 c1 B5 o5 => ?_⟩
    obtain ⟨ys3, hb3⟩ := B3.some
    have db : d ≠ b := fun e => by subst e; rw [hb3] at hd; cases hd
    have hd5 := o5 _ _ upd_same db
    have hp5 := o5 _ _ (s4 _ _ (o3 _ _ hp pb')) pb'
    obtain ⟨num, hat, hnum⟩ : ∃ num : Int, atI [V.int (0 + (i : Int)), V.int r1, V.int (99 - (0 + (i : Int)))] r2 = some (.int num) ∧ 0 ≤ num ∧ num ≤ 99 := by
      rcases (by omega : r2 = 0 ∨ r2 = 1 ∨ r2 = 2) with e | e | e <;> subst e
      · exact ⟨_, at_of (j := 0) rfl rfl, by omega, by omega⟩
      · exact ⟨_, at_of (j := 1) rfl rfl, by omega, by omega⟩
      · exact ⟨_, at_of (j := 2) rfl rfl, by omega, by omega⟩
    refine ⟨d, _, _, _, rfl, rfl, .inl (.inl hd5), hat, ?_⟩
    refine ⟨_, rfl, _, rfl, (by show 1 ≤ sizeLine; decide), fun e he => ?_⟩
    have s6 := same_new he (.lst [V.int num])
    have flat : ∀ l : List Int, (l.map V.int).all flatV = true := fun l => by rw [List.all_map]; exact List.all_eq_true.mpr fun _ _ => rfl
    obtain ⟨k, hk⟩ : ∃ k : Bool, (if true = true then !inV (V.int num) (ns.map V.int) else inV (V.int num) (ns.map V.int)) = k := ⟨_, rfl⟩
    refine ⟨_, rfl, _, rfl, p, _, rfl, .inl (.inl (.inl (s6 _ _ hp5))), rfl, flat ns, .inr ⟨k, congrArg (fun z => [V.bl z]) hk, ?_⟩⟩
    have rep : ∃ ms : List Int, (List.replicate (Int.toNat (if k = true then 1 else 0)) [V.int num]).flatten = ms.map V.int ∧ (∀ m ∈ ms, 0 ≤ m ∧ m ≤ 99) ∧ ms.length ≤ 1 := by
      cases k
      · exact ⟨[], rfl, by simp, by decide⟩
      · exact ⟨[num], rfl, by simpa using hnum, by simp⟩
    obtain ⟨ms, ems, hms, lms⟩ := rep
    refine ⟨e, _, _, rfl, rfl, upd_same, by cases k <;> decide, by cases k <;> decide, ?_, fun e2 he2 => ?_⟩
    · have := big1000
      cases k <;> simp <;> omega
    have hne : p ≠ e2 := ne_of_none (s6 _ _ hp5) he2
    have s7 := same_new he2 (.lst (List.replicate (Int.toNat (if k = true then 1 else 0)) [V.int num]).flatten)
    refine ⟨p, e2, ns.map V.int, ms.map V.int, rfl, rfl, s7 _ _ (s6 _ _ hp5), ?_, ?_, fun l hln => ?_⟩
    · rw [← ems]; exact upd_same
    · rw [List.length_map, List.length_map]; have := big1000; omega
    have s8 := same_new hln (.lst (ns.map V.int ++ ms.map V.int))
    have sz := s6.trans (s7.trans s8)
    have oz : But b H _ := o2.trans (o3.trans ((but_of s4).trans (o5.trans (but_of sz))))
    refine ⟨l, ns ++ ms, _, _, rfl, ?_, ?_, ?_, ?_, ?_, ((B5.same sz).more (by omega)), oz⟩
    · cases z : H l with
      | none => rfl
      | some o =>
        have nlb : l ≠ b := fun e => by
          subst e
          obtain ⟨y5, hb5⟩ := B5.some
          rw [(s6.trans s7) _ _ hb5] at hln
          cases hln
        rw [(o2.trans (o3.trans ((but_of s4).trans (o5.trans (but_of (s6.trans s7)))))) _ _ z nlb] at hln
        cases hln
    · intro e
      subst e
      obtain ⟨y5, hb5⟩ := B5.some
      rw [(s6.trans s7) _ _ hb5] at hln
      cases hln
    · rw [upd_same, List.map_append]
    · intro m h
      rcases List.mem_append.mp h with h | h
      · exact hm m h
      · exact hms m h
    · rw [List.length_append]; omega
  · rintro σ H2 ⟨p, ns, tv, nv, rfl, hpn, pb', hp, hm, hl, B2, o2⟩
    exact ⟨_, rfl, q p ns H2 hpn hp hm (by omega) (B2.more (by omega)) o2⟩
end
end Rp

namespace Rp
open PySem L2
/-- the value of a TERM is an int or a tuple that stands -/
theorem TmAt.ty {K : PySem.W.Frag} {H : Hp} {v : V} {t : Tm} (h : TmAt H v t) : (∃ n, v = .int n ∧ t = .v n) ∨ (∃ a xs, v = .ref a ∧ H a = some (.tup xs) ∧ TyX K H v (.type "tuple") ∧ (∀ n, t ≠ .v n)) := by
  cases h with
  | v n => exact .inl ⟨n, rfl, rfl⟩
  | z h => exact .inr ⟨_, _, rfl, h, .base (.tup h), fun n e => by cases e⟩
  | s h _ => exact .inr ⟨_, _, rfl, h, .base (.tup h), fun n e => by cases e⟩
  | f h _ _ => exact .inr ⟨_, _, rfl, h, .base (.tup h), fun n e => by cases e⟩
def signHead : Tm → Str
  | .v _ => "" | .z => "0" | .s _ => "s" | .f _ _ => "f"
/-- a TERM that is no variable: its tuple, its parts -/
theorem TmAt.tupled {H : Hp} {v : V} {t : Tm} (h : TmAt H v t) (no : ∀ n, t ≠ .v n) : ∃ a ks, v = .ref a ∧ H a = some (.tup (.str (signHead t) :: ks)) ∧ ks.length = t.kids.length ∧ ∀ (i : Nat) (x : V) (k : Tm), ks[i]? = some x → t.kids[i]? = some k → TmAt H x k := by
  cases h with
  | v n => exact absurd rfl (no n)
  | z h => exact ⟨_, [], rfl, h, rfl, fun i x k h => by simp at h⟩
  | @s a x t h q =>
    refine ⟨_, [x], rfl, h, rfl, fun i y k h1 h2 => ?_⟩
    cases i with
    | zero => simp [Tm.kids] at h1 h2; subst h1 h2; exact q
    | succ i => simp at h1
  | @f a x y l r h q q' =>
    refine ⟨_, [x, y], rfl, h, rfl, fun i u k h1 h2 => ?_⟩
    match i with
    | 0 => simp [Tm.kids] at h1 h2; subst h1 h2; exact q
    | 1 => simp [Tm.kids] at h1 h2; subst h1 h2; exact q'
    | i + 2 => simp at h1
theorem signs_kids : ∀ {t : Tm}, (∀ n, t ≠ .v n) → t.signs = .str (signHead t) :: t.kids.flatMap Tm.signs
  | .v n, h => absurd rfl (h n)
  | .z, _ => rfl
  | .s t, _ => by simp [Tm.signs, Tm.kids, signHead]
  | .f l r, _ => by simp [Tm.signs, Tm.kids, signHead]
theorem kid_deep {t k : Tm} (h : k ∈ t.kids) : k.deep < t.deep := by
  cases t with
  | v n => simp [Tm.kids] at h
  | z => simp [Tm.kids] at h
  | s t => simp [Tm.kids] at h; subst h; exact Nat.lt_succ_self _
  | f l r =>
    simp [Tm.kids] at h
    rcases h with h | h <;> subst h <;> (simp only [Tm.deep]; omega)
theorem kid_size {t k : Tm} (h : k ∈ t.kids) : k.size < t.size := by
  cases t with
  | v n => simp [Tm.kids] at h
  | z => simp [Tm.kids] at h
  | s t => simp [Tm.kids] at h; subst h; exact Nat.lt_succ_self _
  | f l r =>
    simp [Tm.kids] at h
    rcases h with h | h <;> subst h <;> (simp only [Tm.size]; omega)
theorem take_flat {t : Tm} (i : Nat) : ((t.kids.take i).flatMap Tm.signs).length ≤ t.size := by
  cases t with
  | v n => simp [Tm.kids]
  | z => simp [Tm.kids]
  | s t =>
    match i with
    | 0 => simp
    | i + 1 => simp [Tm.kids, Tm.signs_len, Tm.size]
  | f l r =>
    match i with
    | 0 => simp
    | 1 => simp [Tm.kids, Tm.signs_len, Tm.size]; try omega
    | i + 2 => simp [Tm.kids, Tm.signs_len, Tm.size]; try omega
theorem cut_tail (x : V) (ks : List V) : cutV (x :: ks) (some 1) none = ks := by
  have e : HT.sIx (x :: ks).length 0 (some 1) = 1 := by
    have := HT.sIx_nat (x :: ks).length 0 1
    rw [List.length_cons] at this ⊢
    rw [show (some 1 : Option Int) = some ((1 : Nat) : Int) from rfl, this]
    omega
  unfold cutV
  rw [e, HT.sIx_none, List.drop_one, List.tail_cons, List.take_of_length_le (by simp)]
theorem cut_part (x : V) (ks : List V) : ¬ (HT.sIx (x :: ks).length 0 (some 1) = 0 ∧ HT.sIx (x :: ks).length (x :: ks).length none = (x :: ks).length) := by
  have := HT.sIx_nat (x :: ks).length 0 1
  rw [List.length_cons] at this ⊢
  rw [show (some 1 : Option Int) = some ((1 : Nat) : Int) from rfl, this]
  omega
section
variable {P : Program} {w : World} {K : PySem.W.Frag} {mg : Str → Option Value} {base : Heap}
theorem kit_ii : PySem.W.kitOne K (.type "int") (.type "int") = some true := kit_ty (by decide +kernel)
theorem kit_ti : PySem.W.kitOne K (.type "tuple") (.type "int") = some false := kit_ty (by decide +kernel)
theorem kit_si : PySem.W.kitOne K (.type "str") (.type "int") = some false := kit_ty (by decide +kernel)
end
end Rp

namespace Rp
open PySem PySem.Spec PyProof.Rows L2
/-- list.extend by any tuple object -/
theorem extend_by (l : Addr) (xs : Array Value) (n : Nat) (b : Addr) (od : Option Addr) (ys : Array Value) (m : Nat) (sl : Array (Option Value)) (short : ¬(!xs.isEmpty && Builtin.List.listTooLong (xs.size + ys.size)) = true) (h1 : xs.size ≤ sizeLine) (h2 : xs.size + ys.size ≤ sizeLine + 1) :
    Meets (Builtin.«list.extend» ⟨[.ref l, .ref b], []⟩) (fun _ R s => s.heap.get? l = some { cls := .type "list", data := .seq xs n } ∧ s.heap.get? b = some ⟨.type "tuple", od, .seq ys m, sl⟩ ∧
      R (.ok (.ret Value.none)) { s with heap := s.heap.update l (Obj.mapSeq fun x => x ++ ys) }) :=
  .of_wp fun prog w A R s ⟨hl, hb, h⟩ => by
    obtain ⟨hp, g, d, tk, os⟩ := s
    have g1 := sub_list_list
    have g2 := sub_tuple_list
    have g3 := sub_tuple_tuple
    have g4 := sub_list_tuple
    have both : (xs ++ ys).size ≤ sizeLine + 1 := by rw [Array.size_append]; exact h2
    wp_walk using (wpAny_updateSeq hl rfl (hz := h1) (_hz' := both)), wpAny_loadPart' hl, wpAny_loadPart' hb
    exact ⟨_, rfl, h⟩
section
variable {X : Cx}
/-- xs.extend(t), t a tuple -/
def rExtT (K : PySem.W.Frag) : V → List V → Hp → VK → Prop := fun x vs H Q => ∃ (l b : Addr) (xs zs : List V), x = .ref l ∧ vs = [.ref b] ∧ H l = some (.lst xs) ∧ SqT K H b zs ∧ xs.length + zs.length ≤ sizeLine ∧ Q .non (upd H l (.lst (xs ++ zs)))
theorem mt_extendT : MtM X "list.extend" (rExtT X.K) := by
  intro pins s σ H x vs v us Q I rx rv h
  obtain ⟨l, b, xs, zs, rfl, rfl, hH, hB, few, q⟩ := h
  cases rx
  obtain ⟨u, rfl, ru⟩ := rv.one
  cases ru
  obtain ⟨z, its, n, r, hl, e⟩ := I.lstM hH
  obtain ⟨its2, r2, ⟨⟨c2, d2, dat2, sl2⟩, e2, hc2, n2, hd2⟩, hz2⟩ := I.tuple hB
  simp only at hc2 hd2
  subst hc2 hd2
  have l1 := r.length
  have l2 := r2.length
  have room : its.toArray.size + its2.toArray.size ≤ sizeLine := by rw [List.size_toArray, List.size_toArray]; omega
  have short : ¬ (!its.toArray.isEmpty && Builtin.List.listTooLong (its.toArray.size + its2.toArray.size)) = true := by
    rw [notLongL room, Bool.and_false]; exact Bool.false_ne_true
  refine call_meets PySem.F.slot_list_extend ⟨_, e, rfl⟩ PySem.F.entry_list_extend (PySem.F.args_list_extend_2 _ _) (extend_by l its.toArray n b d2 its2.toArray n2 sl2 short (by rw [List.size_toArray]; omega) (by omega)) ⟨e, e2, ?_⟩
  refine ⟨.non, _, I.lset (its' := its ++ its2) (t' := s.toks) hH e (by simp) (r.append r2) ?_, rfl, q⟩
  rw [List.length_append]; omega
end
end Rp

namespace Rp
open PySem L2
/-- values and TERMs side by side -/
def AllAt (H : Hp) : List V → List Tm → Prop
  | [], [] => True
  | x :: xs, t :: ts => TmAt H x t ∧ AllAt H xs ts
  | _, _ => False
theorem AllAt.len {H : Hp} : ∀ {xs : List V} {ts : List Tm}, AllAt H xs ts → xs.length = ts.length
  | [], [], _ => rfl
  | x :: xs, t :: ts, h => congrArg (· + 1) (AllAt.len h.2)
theorem AllAt.append {H : Hp} : ∀ {xs ys : List V} {ts us : List Tm}, AllAt H xs ts → AllAt H ys us → AllAt H (xs ++ ys) (ts ++ us)
  | [], _, [], _, _, h => h
  | x :: xs, _, t :: ts, _, h, h' => ⟨h.1, AllAt.append h.2 h'⟩
theorem AllAt.parted {H : Hp} : ∀ {xs ys : List V} {ts : List Tm}, AllAt H (xs ++ ys) ts → ∃ t1 t2, ts = t1 ++ t2 ∧ AllAt H xs t1 ∧ AllAt H ys t2
  | [], _, ts, h => ⟨[], ts, rfl, trivial, h⟩
  | x :: xs, ys, t :: ts, h => by
    obtain ⟨t1, t2, e, h1, h2⟩ := AllAt.parted (xs := xs) h.2
    exact ⟨t :: t1, t2, by rw [e]; rfl, ⟨h.1, h1⟩, h2⟩
theorem AllAt.mono {H H' : Hp} (e : ∀ a xs, H a = some (.tup xs) → H' a = some (.tup xs)) : ∀ {xs : List V} {ts : List Tm}, AllAt H xs ts → AllAt H' xs ts
  | [], [], _ => trivial
  | x :: xs, t :: ts, h => ⟨h.1.mono e, AllAt.mono e h.2⟩
theorem AllAt.back {H : Hp} : ∀ {xs : List V} {ts : List Tm}, AllAt H xs ts → AllAt H xs.reverse ts.reverse
  | [], [], _ => trivial
  | x :: xs, t :: ts, h => by
    rw [List.reverse_cons, List.reverse_cons]
    exact (AllAt.back h.2).append ⟨h.1, trivial⟩
theorem AllAt.get {H : Hp} : ∀ {xs : List V} {ts : List Tm} {i : Nat} {x : V}, AllAt H xs ts → xs[i]? = some x → ∃ t, ts[i]? = some t ∧ TmAt H x t
  | x :: xs, t :: ts, 0, y, h, e => by simp at e; subst e; exact ⟨t, rfl, h.1⟩
  | x :: xs, t :: ts, i + 1, y, h, e => by simpa using AllAt.get h.2 (by simpa using e)
theorem AllAt.of {H : Hp} : ∀ {xs : List V} {ts : List Tm}, xs.length = ts.length → (∀ (i : Nat) (x : V) (k : Tm), xs[i]? = some x → ts[i]? = some k → TmAt H x k) → AllAt H xs ts
  | [], [], _, _ => trivial
  | x :: xs, t :: ts, l, h => ⟨h 0 x t rfl rfl, AllAt.of (by simpa using l) fun i y k a b => h (i + 1) y k (by simpa using a) (by simpa using b)⟩
def spParts : Sp := fun vs H Q _ => ∃ (v : V) (t : Tm), vs = [v] ∧ TmAt H v t ∧ ∀ (p : Addr) (ks : List V) (H' : Hp), H p = none → H' p = some (.tup ks) → AllAt H' ks t.kids → Same H H' → Q (.ref p) H'
def spInside : Sp := fun vs H Q _ => ∃ (v : V) (t : Tm), vs = [v] ∧ TmAt H v t ∧ t.size ≤ 1000 ∧ ∀ (p : Addr) (xs : List V) (H' : Hp), H p = none → H' p = some (.lst xs) → AllAt H' xs t.rpost.reverse → Same H H' → Q (.ref p) H'
def spSize : Sp := fun vs H Q _ => ∃ (v : V) (t : Tm), vs = [v] ∧ TmAt H v t ∧ t.size ≤ 1000 ∧ ∀ H', Same H H' → Q (.int (t.size : Nat)) H'
def spVars : Sp := fun vs H Q _ => ∃ (v : V) (t : Tm), vs = [v] ∧ TmAt H v t ∧ t.size ≤ 60 ∧ ∀ (p : Addr) (ns : List Int) (H' : Hp), H p = none → H' p = some (.lst (ns.map V.int)) → ns.Pairwise (· < ·) → (∀ k, k ∈ ns ↔ k ∈ t.nums) → Same H H' → Q (.ref p) H'
section
variable {P : Program} {w : World} {K : PySem.W.Frag} {mg : Str → Option Value} {base : Heap}
theorem scParts : FnScope ["term"] ["term"] (defScope sParts) := ⟨rfl, rfl, rfl, by decide +kernel, rfl, by decide +kernel, by decide +kernel⟩
theorem ok_parts {f : Addr} {fd : FuncData} (F : Fun K "_parts" "_parts" sParts f fd) (mIsi : mg "isinstance" = none) (mInt : mg "int" = none) : FnOk P w K mg base CX0 1 f fd ["term"] spParts := by
  refine F.ok scParts (fun vs H Q E h => ?_) (fun cdv A outer s H vs Q E hr h => ?_)
  · obtain ⟨v, t, rfl, _⟩ := h
    rfl
  obtain ⟨v, t, rfl, T, q⟩ := h
  refine ⟨_, pss_one (ps_ret (pe_ifExp (pt_val (pe_callB call_isi (by rfl) mIsi (by decide +kernel) (pa_cons (pv 0) (pa_cons (pe_bltn (v := .ty "int") (by rfl) mInt (by decide +kernel) rfl) pa_nil)))) (pe_tup pa_nil) (pe_slice sl_tup (pv 0) (po_some pe_int) po_none))), ?_⟩
  rcases T.ty (K := K) with ⟨m, rfl, rfl⟩ | ⟨a, xs, rfl, ha, ty, no⟩
  · refine ⟨_, rfl, _, _, _, _, true, rfl, .ty "int", .base (.int m), kit_ii, true, rfl, iteT ?_⟩
    exact ⟨(by show 0 ≤ sizeLine; decide), fun p hp => q p [] _ hp upd_same trivial (same_new hp _)⟩
  · obtain ⟨a', ks, e, ha', hk, hks⟩ := T.tupled no
    cases e
    refine ⟨_, rfl, _, _, _, _, false, rfl, .ty "int", ty, kit_ti, false, rfl, iteF ?_⟩
    refine ⟨_, rfl, 1, rfl, a, _, rfl, .inl (.inl ha'), cut_part _ _, fun p hp => ?_⟩
    rw [cut_tail]
    have s1 := same_new hp (.tup ks)
    exact q p ks _ hp upd_same (AllAt.of hk fun i x k a b => (hks i x k a b).same s1) s1
theorem scInside : FnScope ["term", "found", "todo", "part"] ["term"] (defScope sInside) := ⟨rfl, rfl, rfl, by decide +kernel, rfl, by decide +kernel, by decide +kernel⟩
/-- how many parts are still to come -/
def leftOf (n : Nat) (σ : List (Option V)) (H : Hp) : Nat := match σ with
  | _ :: some (V.ref p) :: _ => (match H p with
    | some (HO.lst xs) => n - xs.length
    | _ => 0)
  | _ => 0
theorem leftOf_is {n : Nat} {v : Option V} {p : Addr} {r : List (Option V)} {H : Hp} {xs : List V} (h : H p = some (.lst xs)) : leftOf n (v :: some (.ref p) :: r) H = n - xs.length := by
  unfold leftOf
  simp [h]
theorem ok_inside {f fP : Addr} {fd fdP : FuncData} (F : Fun K "inside_out" "inside_out" sInside f fd) (FP : Fun K "_parts" "_parts" sParts fP fdP) (bP : Binds K fdP ["term"] []) (mP : mg "_parts" = some (.ref fP)) (mIsi : mg "isinstance" = none) (mInt : mg "int" = none) :
    FnOk P w K mg base CX0 2 f fd ["term"] spInside := by
  have GP : FnOk P w K mg base CX0 1 fP fdP ["term"] spParts := ok_parts FP mIsi mInt
  refine F.ok scInside (fun vs H Q E h => ?_) (fun cdv A outer s H vs Q E hr h => ?_)
  · obtain ⟨v, t, rfl, _⟩ := h
    rfl
  obtain ⟨v, t, rfl, T, hz, q⟩ := h
  refine ⟨_, pss_cons (ps_set (i := 1) scInside.nd rfl (Or.inl rfl) (pe_lst pa_nil))
    (pss_cons (ps_set (i := 2) scInside.nd rfl (Or.inl rfl) (pe_lst (pa_cons (pv 0) pa_nil)))
    (pss_cons (ps_while PassesOwn.never (pt_truth (pv 2) (by intro _; rfl))
      (pss_cons (ps_set (i := 3) scInside.nd rfl (Or.inl rfl) (pe_bm0 PySem.F.plainAttrs_list PySem.F.slot_list_pop PySem.F.type_list_pop mt_pop (pv 2)))
      (pss_cons (ps_expr (pe_bm PySem.F.plainAttrs_list PySem.F.slot_list_append PySem.F.type_list_append mt_append (pv 1) (pa_cons (pv 3) pa_nil)))
      (pss_one (ps_expr (pe_bm PySem.F.plainAttrs_list PySem.F.slot_list_extend PySem.F.type_list_extend mt_extendT (pv 2) (pa_cons (pe_call GP hr rfl mP FP.kp bP .nil pass0 (pa_cons (pv 3) pa_nil)) pa_nil)))))))
    (pss_one (ps_ret (pe_revL (pv 1)))))), ?_⟩
  refine ⟨(by show 0 ≤ sizeLine; decide), fun p hp => ?_⟩
  refine ⟨_, rfl, (by show 1 ≤ sizeLine; decide), fun d hd => ?_⟩
  have s1 := same_new hp (.lst [])
  have s2 := same_new hd (.lst [v])
  have s12 : Same H _ := s1.trans s2
  have pd : p ≠ d := ne_of_none upd_same hd
  dsimp only [gName, tSeq]
  refine while_by (fun σ H2 => ∃ (fxs txs : List V) (fs ts : List Tm) (x : Option V), σ = [some v, some (.ref p), some (.ref d), x] ∧ H2 p = some (.lst fxs) ∧ H2 d = some (.lst txs) ∧ AllAt H2 fxs fs ∧ AllAt H2 txs ts ∧ fs ++ ts.reverse.flatMap Tm.rpost = t.rpost ∧ Same H H2)
    (leftOf t.size) ⟨[], [v], [], [t], none, rfl, s2 _ _ upd_same, upd_same, trivial, ⟨T.same s12, trivial⟩, by simp, s12⟩ ?_ (fun σ H Q Q' m ⟨v, hv, k, hk, q⟩ => ⟨v, hv, k, hk, m _ _ q⟩)
  rintro σ H2 ⟨fxs, txs, fs, ts, x, rfl, h1, h2, A1, A2, eq, sH⟩
  refine ⟨_, rfl, !txs.isEmpty, .inl ⟨txs, .inl (.inl h2), rfl⟩, ?_⟩
  have tot := congrArg List.length eq
  rw [List.length_append, Tm.rpost_len, ← A1.len] at tot
  rcases List.eq_nil_or_concat txs with e | ⟨M, y, e⟩
  · subst e
    refine iteF ?_
    have e2 : ts = [] := by have := A2.len; cases ts with | nil => rfl | cons => simp at this
    subst e2
    have e3 : fs = t.rpost := by simpa using eq
    subst e3
    refine ⟨_, rfl, p, _, rfl, .inl (.inl h1), fun r hr2 => ?_⟩
    have s3 := same_new hr2 (.lst fxs.reverse)
    refine q r _ _ (sH.free hr2) upd_same (A1.back.mono fun a xs z => s3 _ _ z) (sH.trans s3)
  · rw [List.concat_eq_append] at e
    subst e
    have ne : (!(M ++ [y]).isEmpty) = true := by simp
    rw [ne]
    refine iteT ?_
    obtain ⟨L, k', e2, AM, Ay⟩ := A2.parted
    subst e2
    obtain ⟨k, rfl, Tk⟩ : ∃ k, k' = [k] ∧ TmAt H2 y k := by
      match k', Ay with
      | [k], Ay => exact ⟨k, rfl, Ay.1⟩
    have ek : fs ++ (k :: (k.kids.reverse.flatMap Tm.rpost ++ L.reverse.flatMap Tm.rpost)) = t.rpost := by
      rw [← eq]
      simp [Tm.rpost_kids k]
    have room : fxs.length < t.size := by
      have := congrArg List.length ek
      rw [List.length_append, Tm.rpost_len, ← A1.len, List.length_cons] at this
      omega
    have big := big1000
    -- part = todo.pop()
    refine ⟨_, rfl, .inl ⟨rfl, _, .inl (.inl h2)⟩, d, _, y, rfl, rfl, h2, by simp, ?_⟩
    rw [List.dropLast_concat]
    have dp : d ≠ p := fun z => pd z.symm
    have t3 : ∀ a xs, H2 a = some (.tup xs) → upd H2 d (.lst M) a = some (.tup xs) := fun a xs z => by rw [upd_ne (ne_of z h2 (by intro z; cases z))]; exact z
    -- found.append(part)
    refine ⟨_, rfl, .inl ⟨rfl, fxs, .inl (.inl (by rw [upd_ne pd]; exact h1))⟩, _, rfl, p, fxs, y, rfl, rfl, (by rw [upd_ne pd]; exact h1), by omega, ?_⟩
    have h1' : (upd (upd H2 d (.lst M)) p (.lst (fxs ++ [y]))) p = some (.lst (fxs ++ [y])) := upd_same
    have h2' : (upd (upd H2 d (.lst M)) p (.lst (fxs ++ [y]))) d = some (.lst M) := by rw [upd_ne dp]; exact upd_same
    have t4 : ∀ a xs, H2 a = some (.tup xs) → (upd (upd H2 d (.lst M)) p (.lst (fxs ++ [y]))) a = some (.tup xs) := fun a xs z => by
      rw [upd_ne (ne_of z h1 (by intro z; cases z))]; exact t3 a xs z
    have pn : H p = none := hp
    have dn : H d = none := s1.free hd
    have sH4 : Same H (upd (upd H2 d (.lst M)) p (.lst (fxs ++ [y]))) := fun b o z => by
      rw [upd_ne (ne_of_none z pn), upd_ne (ne_of_none z dn)]; exact sH b o z
    -- todo.extend(_parts(part))
    refine ⟨_, rfl, .inl ⟨rfl, M, .inl (.inl h2')⟩, _, rfl, y, k, rfl, Tk.mono t4, fun g ks H5 hg h5 A5 s5 => ?_⟩
    have kl := A5.len
    have lim : M.length + ks.length ≤ sizeLine := by
      have a1 := congrArg List.length ek
      have a2 : k.kids.length ≤ 2 := by cases k <;> simp [Tm.kids]
      have a3 : L.length ≤ (L.reverse.flatMap Tm.rpost).length := by
        have : ∀ l : List Tm, l.length ≤ (l.flatMap Tm.rpost).length := by
          intro l
          induction l with
          | nil => simp
          | cons z l ih => rw [List.flatMap_cons, List.length_append, Tm.rpost_len, List.length_cons]; have := Tm.size_pos z; omega
        have := this L.reverse
        rwa [List.length_reverse] at this
      have a4 := AM.len
      rw [List.length_append, List.length_cons, List.length_append, Tm.rpost_len] at a1
      have a5 : (1000 : Nat) + 1000 ≤ sizeLine := by decide
      omega
    refine ⟨d, g, M, ks, rfl, rfl, s5 _ _ h2', .inl (.inl h5), lim, ?_⟩
    have h1'' := s5 _ _ h1'
    have t6 : ∀ a xs, H5 a = some (.tup xs) → upd H5 d (.lst (M ++ ks)) a = some (.tup xs) := fun a xs z => by rw [upd_ne (ne_of z (s5 _ _ h2') (by intro z; cases z))]; exact z
    have t7 : ∀ a xs, H2 a = some (.tup xs) → upd H5 d (.lst (M ++ ks)) a = some (.tup xs) := fun a xs z => t6 a xs (s5 _ _ (t4 a xs z))
    have h1d : (upd H5 d (.lst (M ++ ks))) p = some (.lst (fxs ++ [y])) := by rw [upd_ne pd]; exact h1''
    refine ⟨⟨fxs ++ [y], M ++ ks, fs ++ [k], L ++ k.kids, some y, rfl, h1d, upd_same, (A1.mono t7).append ⟨Tk.mono t7, trivial⟩, (AM.mono t7).append (A5.mono t6), ?_, ?_⟩, ?_⟩
    · rw [← ek]; simp
    · intro b o z
      rw [upd_ne (ne_of_none z dn)]
      exact s5 _ _ (sH4 b o z)
    · show leftOf t.size (some v :: some (.ref p) :: _) _ < leftOf t.size (some v :: some (.ref p) :: _) H2
      rw [leftOf_is h1d, leftOf_is h1, List.length_append, List.length_singleton]
      omega
end
end Rp

namespace Rp
open PySem L2 RZ
/-- [.. for a, b in zip(xs, ys)], both lists or both tuples, as long -/
theorem lc_pairs {J : It} {xs ys : List V} {g : TG} {tt : TT} {te : TE} {vs : List Nat} {σ : L2.St} {H1 : Hp} {D : Addr} {Qd : Hp → Prop} (same : xs.length = ys.length) (Pv : Nat → Hp → Prop)
    (stops : ∀ H, Pv xs.length H → J.stop xs.length H) (goes : ∀ i H, i < xs.length → Pv i H → J.go i H)
    (gives : ∀ i H v H', Pv i H → J.yld i H v H' → ∃ T x y, v = .ref T ∧ xs[i]? = some x ∧ ys[i]? = some y ∧ H T = none ∧ H' = upd H T (.tup [x, y]))
    (h0 : Pv 0 (upd H1 D (.lst [])))
    (hs : ∀ (i : Nat) (x y : V) (T : Addr) (H : Hp), xs[i]? = some x → ys[i]? = some y → Pv i H → H T = none → g (.ref T) (wipe σ vs) (upd H T (.tup [x, y])) fun σ2 H2 => wipe σ2 vs = wipe σ vs ∧
      tt σ2 H2 fun b H3 => if b = true then te σ2 H3 fun y H4 => ∃ acc, H4 D = some (.lst acc) ∧ acc.length < sizeLine ∧ Pv (i + 1) (upd H4 D (.lst (acc ++ [y]))) else Pv (i + 1) H3)
    (hd : ∀ H, Pv xs.length H → Qd H) :
    ∃ W : Nat → Nat → Hp → Prop, (∃ m, W 0 m (upd H1 D (.lst []))) ∧ ∀ i m H, W i m H → (J.stop i H ∧ Qd H) ∨
      (J.go i H ∧ ∃ Nx : Hp → Prop, (∀ H', Nx H' → ∃ m', m' < m ∧ W (i + 1) m' H') ∧ ∀ x H', J.yld i H x H' → g x (wipe σ vs) H' fun σ2 H2 => wipe σ2 vs = wipe σ vs ∧
        tt σ2 H2 fun b H3 => if b = true then te σ2 H3 fun y H4 => ∃ acc, H4 D = some (.lst acc) ∧ acc.length < sizeLine ∧ Nx (upd H4 D (.lst (acc ++ [y]))) else Nx H3) := by
  refine ⟨fun i m H => m + i = xs.length ∧ Pv i H, ⟨xs.length, by simp, h0⟩, ?_⟩
  rintro i m H ⟨em, p⟩
  rcases Nat.lt_or_ge i xs.length with lt | ge
  · refine .inr ⟨goes i H lt p, Pv (i + 1), fun H' p' => ⟨m - 1, by omega, by omega, p'⟩, fun v H' y => ?_⟩
    obtain ⟨T, x, y', rfl, hx, hy, hT, rfl⟩ := gives i H v H' p y
    exact hs i x y' T H hx hy p hT
  · have e : i = xs.length := by omega
    subst e
    exact .inl ⟨stops H p, hd H p⟩
def spSame (n : Nat) : Sp := fun vs H Q _ => ∃ (x y : V) (m : Nat), vs = [x, y] ∧ n = m + 1 ∧ Alike H m x y ∧ ∀ H', Same H H' → Q (.bl true) H'
section
variable {P : Program} {w : World} {K : PySem.W.Frag} {mg : Str → Option Value} {base : Heap}
structure SameG (mg : Str → Option Value) : Prop where
  isi : mg "isinstance" = none
  list : mg "list" = none
  tuple : mg "tuple" = none
  len : mg "len" = none
  all : mg "all" = none
  zip : mg "zip" = none
  str : mg "str" = none
  int : mg "int" = none
  bool : mg "bool" = none
theorem scSame : FnScope ["_law_found", "_law_due", "_law_one", "_law_two"] ["_law_found", "_law_due"] (defScope sSame) := ⟨rfl, rfl, rfl, by decide +kernel, rfl, by decide +kernel, by decide +kernel⟩
theorem kitB_of {K : PySem.W.Frag} {a b : String} {r : Bool} (h : kitB a b = some r) : PySem.W.kitOne K (.type a) (.type b) = some r := h
theorem kit_lt {K : PySem.W.Frag} {a : String} {p r : Bool} (h1 : kitB a "list" = some p) (h2 : kitB a "tuple" = some r) : PySem.W.kitAny K (.type a) [.type "list", .type "tuple"] = some (p || r) := by
  refine kitAny_cons (kitB_of h1) (fun e => ?_) (fun e => by rw [e]; rfl)
  refine kitAny_cons (kitB_of h2) (fun e2 => by rw [e, e2]; exact kitAny_nil) (fun e2 => by rw [e, e2]; rfl)
theorem ok_same {n : Nat} {f : Addr} {fd : FuncData} (F : Fun K "_law_same" "_law_same" sSame f fd) (b2 : Binds K fd ["_law_found", "_law_due"] []) (mF : mg "_law_same" = some (.ref f)) (G : FnOk P w K mg base CX0 n f fd ["_law_found", "_law_due"] (spSame n)) (M : SameG mg) :
    FnOk P w K mg base CX0 (n + 1) f fd ["_law_found", "_law_due"] (spSame (n + 1)) := by
  refine F.ok scSame (fun vs H Q E h => ?_) (fun cdv A outer s H vs Q E hr h => ?_)
  · obtain ⟨x, y, m, rfl, _⟩ := h
    rfl
  obtain ⟨x, y, m, rfl, em, hA, q⟩ := h
  have em : n = m := by omega
  subst em
  refine ⟨_, pss_cons (ps_if (pt_val (pe_callB (id := "isinstance") call_isiT (by rfl) M.isi (by decide +kernel) (pa_cons (pv 1) (pa_cons (pe_tup (pa_cons (pe_bltn (v := .ty "list") (by rfl) M.list (by decide +kernel) rfl) (pa_cons (pe_bltn (v := .ty "tuple") (by rfl) M.tuple (by decide +kernel) rfl) pa_nil))) pa_nil))))
      (pss_cons (ps_if (PW.pt (pw_or (pt_cmpR op_ne
            (pe_callB (id := "isinstance") call_isi (by rfl) M.isi (by decide +kernel) (pa_cons (pv 0) (pa_cons (pe_bltn (v := .ty "list") (by rfl) M.list (by decide +kernel) rfl) pa_nil)))
            (pe_callB (id := "isinstance") call_isi (by rfl) M.isi (by decide +kernel) (pa_cons (pv 1) (pa_cons (pe_bltn (v := .ty "list") (by rfl) M.list (by decide +kernel) rfl) pa_nil))) (nomark _))
          (pw_or1 (pt_cmpR op_ne
            (pe_callB (id := "isinstance") call_isi (by rfl) M.isi (by decide +kernel) (pa_cons (pv 0) (pa_cons (pe_bltn (v := .ty "tuple") (by rfl) M.tuple (by decide +kernel) rfl) pa_nil)))
            (pe_callB (id := "isinstance") call_isi (by rfl) M.isi (by decide +kernel) (pa_cons (pv 1) (pa_cons (pe_bltn (v := .ty "tuple") (by rfl) M.tuple (by decide +kernel) rfl) pa_nil))) (nomark _))))) (pss_one (ps_ret pe_bl)) pss_nil)
      (pss_cons (ps_if (pt_cmpR op_ne (pe_callB call_len_seq (by rfl) M.len PySem.boot_len (pa_cons (pv 0) pa_nil)) (pe_callB call_len_seq (by rfl) M.len PySem.boot_len (pa_cons (pv 1) pa_nil)) (nomark _)) (pss_one (ps_ret pe_bl)) pss_nil)
      (pss_one (ps_ret (pe_callB (cr_all rfl) (by rfl) M.all (by decide +kernel) (pa_cons (pe_lc (own := [("_law_one", 2), ("_law_two", 3)]) (g := gTup K 2 (gCons (gName 2) (gCons (gName 3) gNil))) (tt := tYes) (te := tCall (spSame n) [] E0 (tCons (tVar 2) (tCons (tVar 3) tNil))) rfl scSame.nd
        (pi_zipA (by rfl) M.zip (pa_cons (pv 0) (pa_cons (pv 1) pa_nil))) (blkOk_by (N := ["_law_found", "_law_due", "_law_one", "_law_two"]) (sc := defScope sSame) (by decide +kernel))
        (fun _ _ _ _ _ => pg_tup (by rfl) (pgs_cons (pg_name (i := 2) scSame.nd rfl (Or.inl rfl)) (pgs_cons (pg_name (i := 3) scSame.nd rfl (Or.inl rfl)) pgs_nil)))
        (fun _ _ _ _ _ => pts_nil) (fun _ _ _ _ _ => pe_call G hr (by rfl) mF F.kp b2 .nil pass0 (pa_cons (pv 2) (pa_cons (pv 3) pa_nil)))) pa_nil)))))) pss_nil)
    (pss_cons (ps_if (PW.pt (pw_or (pt_cmpR op_isN (pv 1) pe_non (nomark _)) (pw_or1 (pt_val (pe_callB (id := "isinstance") call_isi (by rfl) M.isi (by decide +kernel) (pa_cons (pv 1) (pa_cons (pe_bltn (v := .ty "str") (by rfl) M.str (by decide +kernel) rfl) pa_nil)))))))
      (pss_one (ps_ret (pe_and (pe_cmpR op_eq (pv 0) (pv 1) (nomark _)) (pe_one (pe_cmpR op_eq
            (pe_callB (id := "isinstance") call_isi (by rfl) M.isi (by decide +kernel) (pa_cons (pv 0) (pa_cons (pe_bltn (v := .ty "str") (by rfl) M.str (by decide +kernel) rfl) pa_nil)))
            (pe_callB (id := "isinstance") call_isi (by rfl) M.isi (by decide +kernel) (pa_cons (pv 1) (pa_cons (pe_bltn (v := .ty "str") (by rfl) M.str (by decide +kernel) rfl) pa_nil))) (nomark _)))))) pss_nil)
    (pss_one (ps_ret (pe_and (pe_callB (id := "isinstance") call_isi (by rfl) M.isi (by decide +kernel) (pa_cons (pv 0) (pa_cons (pe_bltn (v := .ty "int") (by rfl) M.int (by decide +kernel) rfl) pa_nil)))
      (pe_and (pe_cmpR op_eq
            (pe_callB (id := "isinstance") call_isi (by rfl) M.isi (by decide +kernel) (pa_cons (pv 0) (pa_cons (pe_bltn (v := .ty "bool") (by rfl) M.bool (by decide +kernel) rfl) pa_nil)))
            (pe_callB (id := "isinstance") call_isi (by rfl) M.isi (by decide +kernel) (pa_cons (pv 1) (pa_cons (pe_bltn (v := .ty "bool") (by rfl) M.bool (by decide +kernel) rfl) pa_nil))) (nomark _))
        (pe_one (pe_cmpR op_eq (pv 0) (pv 1) (nomark _)))))))), ?_⟩
  refine ⟨_, rfl, (by show 2 ≤ sizeLine; decide), fun p hp => ?_⟩
  have s1 := same_new hp (.tup [V.ty "list", V.ty "tuple"])
  have plain : Plain x ∧ x = y ∨ ∃ m a b xs ys, n = m + 1 ∧ x = .ref a ∧ y = .ref b ∧ ((H a = some (.lst xs) ∧ H b = some (.lst ys)) ∨ (H a = some (.tup xs) ∧ H b = some (.tup ys))) ∧
      xs.length = ys.length ∧ xs.length ≤ 1000000 ∧ ∀ (i : Nat) (u v : V), xs[i]? = some u → ys[i]? = some v → Alike H m u v := by
    cases n with
    | zero => unfold Alike at hA; exact .inl hA
    | succ m =>
      unfold Alike at hA
      rcases hA with h | ⟨a, b, xs, ys, h⟩
      · exact .inl h
      · exact .inr ⟨m, a, b, xs, ys, rfl, h⟩
  rcases plain with ⟨px, rfl⟩ | ⟨m, a, b, xs, ys, rfl, rfl, rfl, kinds, hl, hz, each⟩
  · cases x with
    | int i =>
      refine ⟨_, p, _, _, [.type "list", .type "tuple"], false, rfl, upd_same, .cons (.ty _) (.cons (.ty _) .nil), .base (.int i), kit_lt (p := false) (r := false) (by decide +kernel) (by decide +kernel), false, rfl, iteF ?_⟩
      refine ⟨_, rfl, rfl, false, congrArg V.bl (decide_eq_false (fun z => nomatch z)), iteF ?_⟩
      refine ⟨_, rfl, _, _, _, _, false, rfl, .ty "str", .base (.int i), kitB_of (by decide +kernel), false, rfl, iteF ?_⟩
      refine ⟨_, rfl, _, _, _, _, true, rfl, .ty "int", .base (.int i), kitB_of (by decide +kernel), true, rfl, iteT ?_⟩
      refine ⟨_, rfl, _, _, _, _, false, rfl, .ty "bool", .base (.int i), kitB_of (by decide +kernel), _, rfl, _, _, _, _, false, rfl, .ty "bool", .base (.int i), kitB_of (by decide +kernel), rfl, true, congrArg V.bl (decide_eq_true rfl), iteT ?_⟩
      refine ⟨_, rfl, _, rfl, rfl, ?_⟩
      have e : decide (V.int i = V.int i) = true := decide_eq_true rfl
      rw [e]
      exact q _ s1
    | bl i =>
      refine ⟨_, p, _, _, [.type "list", .type "tuple"], false, rfl, upd_same, .cons (.ty _) (.cons (.ty _) .nil), .base (.bl i), kit_lt (p := false) (r := false) (by decide +kernel) (by decide +kernel), false, rfl, iteF ?_⟩
      refine ⟨_, rfl, rfl, false, congrArg V.bl (decide_eq_false (fun z => nomatch z)), iteF ?_⟩
      refine ⟨_, rfl, _, _, _, _, false, rfl, .ty "str", .base (.bl i), kitB_of (by decide +kernel), false, rfl, iteF ?_⟩
      refine ⟨_, rfl, _, _, _, _, true, rfl, .ty "int", .base (.bl i), kitB_of (by decide +kernel), true, rfl, iteT ?_⟩
      refine ⟨_, rfl, _, _, _, _, true, rfl, .ty "bool", .base (.bl i), kitB_of (by decide +kernel), _, rfl, _, _, _, _, true, rfl, .ty "bool", .base (.bl i), kitB_of (by decide +kernel), rfl, true, congrArg V.bl (decide_eq_true rfl), iteT ?_⟩
      refine ⟨_, rfl, _, rfl, rfl, ?_⟩
      have e : decide (V.bl i = V.bl i) = true := decide_eq_true rfl
      rw [e]
      exact q _ s1
    | str i =>
      refine ⟨_, p, _, _, [.type "list", .type "tuple"], false, rfl, upd_same, .cons (.ty _) (.cons (.ty _) .nil), .base (.str i), kit_lt (p := false) (r := false) (by decide +kernel) (by decide +kernel), false, rfl, iteF ?_⟩
      refine ⟨_, rfl, rfl, false, congrArg V.bl (decide_eq_false (fun z => nomatch z)), iteF ?_⟩
      refine ⟨_, rfl, _, _, _, _, true, rfl, .ty "str", .base (.str i), kitB_of (by decide +kernel), true, rfl, iteT ?_⟩
      refine ⟨_, rfl, _, rfl, rfl, true, congrArg V.bl (decide_eq_true rfl), iteT ?_⟩
      refine ⟨_, rfl, _, _, _, _, true, rfl, .ty "str", .base (.str i), kitB_of (by decide +kernel), _, rfl, _, _, _, _, true, rfl, .ty "str", .base (.str i), kitB_of (by decide +kernel), rfl, ?_⟩
      have e : decide (V.bl true = V.bl true) = true := decide_eq_true rfl
      rw [e]
      exact q _ s1
    | non =>
      refine ⟨_, p, _, _, [.type "list", .type "tuple"], false, rfl, upd_same, .cons (.ty _) (.cons (.ty _) .nil), .base .non, kit_lt (p := false) (r := false) (by decide +kernel) (by decide +kernel), false, rfl, iteF ?_⟩
      refine ⟨_, rfl, rfl, true, congrArg V.bl (decide_eq_true rfl), iteT ?_⟩
      refine iteT ?_
      refine ⟨_, rfl, _, rfl, rfl, true, congrArg V.bl (decide_eq_true rfl), iteT ?_⟩
      refine ⟨_, rfl, _, _, _, _, false, rfl, .ty "str", .base .non, kitB_of (by decide +kernel), _, rfl, _, _, _, _, false, rfl, .ty "str", .base .non, kitB_of (by decide +kernel), rfl, ?_⟩
      have e : decide (V.bl false = V.bl false) = true := decide_eq_true rfl
      rw [e]
      exact q _ s1
    | _ => exact px.elim
  · rcases kinds with ⟨ha, hb⟩ | ⟨ha, hb⟩
    · have ha1 := s1 _ _ ha
      have hb1 := s1 _ _ hb
      refine ⟨_, p, _, _, [.type "list", .type "tuple"], true, rfl, upd_same, .cons (.ty _) (.cons (.ty _) .nil), .base (.lst hb1), kit_lt (p := true) (r := false) (by decide +kernel) (by decide +kernel), true, rfl, iteT ?_⟩
      refine ⟨_, rfl, _, _, _, _, true, rfl, .ty "list", .base (.lst ha1), kitB_of (by decide +kernel), _, rfl, _, _, _, _, true, rfl, .ty "list", .base (.lst hb1), kitB_of (by decide +kernel), rfl, false, congrArg (fun z => V.bl (!z)) (decide_eq_true rfl), iteF ?_⟩
      refine ⟨_, rfl, _, _, _, _, false, rfl, .ty "tuple", .base (.lst ha1), kitB_of (by decide +kernel), _, rfl, _, _, _, _, false, rfl, .ty "tuple", .base (.lst hb1), kitB_of (by decide +kernel), rfl, false, congrArg (fun z => V.bl (!z)) (decide_eq_true rfl), iteF ?_⟩
      refine ⟨_, rfl, a, _, rfl, .inl (.inl (.inl ha1)), _, rfl, b, _, rfl, .inl (.inl (.inl hb1)), rfl, false, congrArg (fun z => V.bl (!z)) (decide_eq_true (by rw [hl])), iteF ?_⟩
      refine ⟨_, rfl, _, rfl, a, b, xs, ys, rfl, .inl ⟨.inl (.inl ha1), .inl (.inl hb1), fun D hD => ?_⟩⟩
      refine lc_pairs (J := Itz K a b) (xs := xs) (ys := ys) hl (fun i H2 => H2 D = some (.lst (List.replicate i (V.bl true))) ∧ Same _ H2)
        (fun H2 h => ⟨xs, ys, .inl (.inl (h.2 _ _ ha1)), .inl (.inl (h.2 _ _ hb1)), .inl (Nat.le_refl _)⟩)
        (fun i H2 lt h => ⟨xs, ys, xs[i], ys[i]'(by omega), .inl (.inl (h.2 _ _ ha1)), .inl (.inl (h.2 _ _ hb1)), List.getElem?_eq_getElem lt, List.getElem?_eq_getElem (by omega)⟩)
        (fun i H2 v H3 h ⟨T, u, v', e1, hT, e2, f1, f2⟩ => ⟨T, u, v', e1, f1 xs (.inl (.inl (h.2 _ _ ha1))), f2 ys (.inl (.inl (h.2 _ _ hb1))), hT, e2⟩)
        ⟨upd_same, same_new hD _⟩ (fun i u v T H2 hu hv h hT => ?_) (fun H2 h => ⟨D, List.replicate xs.length true, rfl, .inl (.inl (by rw [List.map_replicate]; exact h.1)), ?_⟩)
      · have sT := same_new hT (.tup [u, v])
        refine ⟨T, _, rfl, .inl (.inl upd_same), rfl, _, _, rfl, _, _, rfl, rfl, rfl, ?_⟩
        have lt : i < xs.length := (List.getElem?_eq_some_iff.mp hu).1
        refine ⟨_, rfl, _, rfl, u, v, m, rfl, rfl, Alike.mono (s1.trans (h.2.trans sT)) m (each i u v hu hv), fun H4 s4 => ⟨_, s4 _ _ (sT _ _ h.1), ?_, ?_, ?_⟩⟩
        · rw [List.length_replicate]; exact Nat.lt_of_lt_of_le (by omega : i < 1000000) (by decide)
        · rw [upd_same, List.replicate_succ']
        · intro c o z
          have nD : c ≠ D := fun e => by subst e; rw [hD] at z; cases z
          rw [upd_ne nD]
          exact s4 _ _ (sT _ _ (h.2 _ _ z))
      · have e : (List.replicate xs.length true).all id = true := by rw [List.all_eq_true]; intro x hx; rw [List.eq_of_mem_replicate hx]; rfl
        rw [e]
        exact q _ (s1.trans h.2)
    · have ha1 := s1 _ _ ha
      have hb1 := s1 _ _ hb
      refine ⟨_, p, _, _, [.type "list", .type "tuple"], true, rfl, upd_same, .cons (.ty _) (.cons (.ty _) .nil), .base (.tup hb1), kit_lt (p := false) (r := true) (by decide +kernel) (by decide +kernel), true, rfl, iteT ?_⟩
      refine ⟨_, rfl, _, _, _, _, false, rfl, .ty "list", .base (.tup ha1), kitB_of (by decide +kernel), _, rfl, _, _, _, _, false, rfl, .ty "list", .base (.tup hb1), kitB_of (by decide +kernel), rfl, false, congrArg (fun z => V.bl (!z)) (decide_eq_true rfl), iteF ?_⟩
      refine ⟨_, rfl, _, _, _, _, true, rfl, .ty "tuple", .base (.tup ha1), kitB_of (by decide +kernel), _, rfl, _, _, _, _, true, rfl, .ty "tuple", .base (.tup hb1), kitB_of (by decide +kernel), rfl, false, congrArg (fun z => V.bl (!z)) (decide_eq_true rfl), iteF ?_⟩
      refine ⟨_, rfl, a, _, rfl, .inr (.inl (.inl ha1)), _, rfl, b, _, rfl, .inr (.inl (.inl hb1)), rfl, false, congrArg (fun z => V.bl (!z)) (decide_eq_true (by rw [hl])), iteF ?_⟩
      refine ⟨_, rfl, _, rfl, a, b, xs, ys, rfl, .inr ⟨.inl (.inl ha1), .inl (.inl hb1), fun D hD => ?_⟩⟩
      refine lc_pairs (J := ItzT K a b) (xs := xs) (ys := ys) hl (fun i H2 => H2 D = some (.lst (List.replicate i (V.bl true))) ∧ Same _ H2)
        (fun H2 h => ⟨xs, ys, .inl (.inl (h.2 _ _ ha1)), .inl (.inl (h.2 _ _ hb1)), .inl (Nat.le_refl _)⟩)
        (fun i H2 lt h => ⟨xs, ys, xs[i], ys[i]'(by omega), .inl (.inl (h.2 _ _ ha1)), .inl (.inl (h.2 _ _ hb1)), List.getElem?_eq_getElem lt, List.getElem?_eq_getElem (by omega)⟩)
        (fun i H2 v H3 h ⟨T, u, v', e1, hT, e2, f1, f2⟩ => ⟨T, u, v', e1, f1 xs (.inl (.inl (h.2 _ _ ha1))), f2 ys (.inl (.inl (h.2 _ _ hb1))), hT, e2⟩)
        ⟨upd_same, same_new hD _⟩ (fun i u v T H2 hu hv h hT => ?_) (fun H2 h => ⟨D, List.replicate xs.length true, rfl, .inl (.inl (by rw [List.map_replicate]; exact h.1)), ?_⟩)
      · have sT := same_new hT (.tup [u, v])
        refine ⟨T, _, rfl, .inl (.inl upd_same), rfl, _, _, rfl, _, _, rfl, rfl, rfl, ?_⟩
        have lt : i < xs.length := (List.getElem?_eq_some_iff.mp hu).1
        refine ⟨_, rfl, _, rfl, u, v, m, rfl, rfl, Alike.mono (s1.trans (h.2.trans sT)) m (each i u v hu hv), fun H4 s4 => ⟨_, s4 _ _ (sT _ _ h.1), ?_, ?_, ?_⟩⟩
        · rw [List.length_replicate]; exact Nat.lt_of_lt_of_le (by omega : i < 1000000) (by decide)
        · rw [upd_same, List.replicate_succ']
        · intro c o z
          have nD : c ≠ D := fun e => by subst e; rw [hD] at z; cases z
          rw [upd_ne nD]
          exact s4 _ _ (sT _ _ (h.2 _ _ z))
      · have e : (List.replicate xs.length true).all id = true := by rw [List.all_eq_true]; intro x hx; rw [List.eq_of_mem_replicate hx]; rfl
        rw [e]
        exact q _ (s1.trans h.2)
theorem same_ok {f : Addr} {fd : FuncData} (F : Fun K "_law_same" "_law_same" sSame f fd) (b2 : Binds K fd ["_law_found", "_law_due"] []) (mF : mg "_law_same" = some (.ref f)) (M : SameG mg) :
    ∀ n : Nat, FnOk P w K mg base CX0 n f fd ["_law_found", "_law_due"] (spSame n)
  | 0 => none_left fun vs H Q E h => by
    obtain ⟨x, y, m, _, e, _⟩ := h
    omega
  | n + 1 => ok_same F b2 mF (same_ok F b2 mF M n) M
end
end Rp

/-! Data of any depth: what stands as which, and which data are TERMs. -/
namespace Rp
open PySem L2
/-- a tuple stands at a, plain or not -/
def TupAt (H : Hp) (a : Addr) (xs : List V) : Prop := H a = some (.tup xs) ∨ ∃ o, H a = some (.frz o (.tup xs))
theorem TupAt.same {H H' : Hp} {a : Addr} {xs : List V} (e : Same H H') (h : TupAt H a xs) : TupAt H' a xs := h.imp (fun q => e _ _ q) fun ⟨o, q⟩ => ⟨o, e _ _ q⟩
theorem TupAt.but {H H' : Hp} {b a : Addr} {ys xs : List V} (e : But b H H') (hb : H b = some (.lst ys)) (h : TupAt H a xs) : TupAt H' a xs :=
  h.imp (fun q => e _ _ q (ne_of q hb (by intro z; cases z))) fun ⟨o, q⟩ => ⟨o, e _ _ q (ne_of q hb (by intro z; cases z))⟩
mutual
/-- the value v stands as the data d; its lists are others than the box b -/
def DAt (H : Hp) (b : Addr) : V → PyData → Prop
  | v, .none => v = .non
  | v, .bool c => v = .bl c
  | v, .int i => v = .int i
  | v, .str x => v = .str x
  | v, .list ds => ∃ (a : Addr) (xs : List V), v = .ref a ∧ a ≠ b ∧ H a = some (.lst xs) ∧ DAtAll H b xs ds
  | v, .tuple ds => ∃ (a : Addr) (xs : List V), v = .ref a ∧ TupAt H a xs ∧ DAtAll H b xs ds
  | _, .dict _ => False
def DAtAll (H : Hp) (b : Addr) : List V → List PyData → Prop
  | xs, [] => xs = []
  | xs, d :: ds => ∃ (x : V) (r : List V), xs = x :: r ∧ DAt H b x d ∧ DAtAll H b r ds
end
mutual
theorem DAt.dp {K : PySem.W.Frag} {H : Hp} {b : Addr} : ∀ (d : PyData) {v : V}, DAt H b v d → Dp K H v d
  | .none, _, h => by unfold DAt at h; subst h; exact .non
  | .bool _, _, h => by unfold DAt at h; subst h; exact .bl _
  | .int _, _, h => by unfold DAt at h; subst h; exact .int _
  | .str _, _, h => by unfold DAt at h; subst h; exact .str _
  | .list ds, _, h => by
    unfold DAt at h
    obtain ⟨a, xs, rfl, _, e, q⟩ := h
    exact .lst (.inl (.inl e)) (DAtAll.dp ds q)
  | .tuple ds, _, h => by
    unfold DAt at h
    obtain ⟨a, xs, rfl, e, q⟩ := h
    exact .tup (.inl e) (DAtAll.dp ds q)
  | .dict _, _, h => by unfold DAt at h; exact h.elim
theorem DAtAll.dp {K : PySem.W.Frag} {H : Hp} {b : Addr} : ∀ (ds : List PyData) {xs : List V}, DAtAll H b xs ds → DpAll K H xs ds
  | [], _, h => by unfold DAtAll at h; subst h; exact .nil
  | d :: ds, _, h => by
    unfold DAtAll at h
    obtain ⟨x, r, rfl, q, q'⟩ := h
    exact .cons (DAt.dp d q) (DAtAll.dp ds q')
end
mutual
theorem DAt.mono {H H' : Hp} {b : Addr} (et : ∀ a xs, TupAt H a xs → TupAt H' a xs) (el : ∀ a xs, a ≠ b → H a = some (.lst xs) → H' a = some (.lst xs)) : ∀ (d : PyData) {v : V}, DAt H b v d → DAt H' b v d
  | .none, _, h => by unfold DAt at h ⊢; exact h
  | .bool _, _, h => by unfold DAt at h ⊢; exact h
  | .int _, _, h => by unfold DAt at h ⊢; exact h
  | .str _, _, h => by unfold DAt at h ⊢; exact h
  | .list ds, _, h => by
    unfold DAt at h ⊢
    obtain ⟨a, xs, e, n, q, q'⟩ := h
    exact ⟨a, xs, e, n, el _ _ n q, DAtAll.mono et el ds q'⟩
  | .tuple ds, _, h => by
    unfold DAt at h ⊢
    obtain ⟨a, xs, e, q, q'⟩ := h
    exact ⟨a, xs, e, et _ _ q, DAtAll.mono et el ds q'⟩
  | .dict _, _, h => by unfold DAt at h; exact h.elim
theorem DAtAll.mono {H H' : Hp} {b : Addr} (et : ∀ a xs, TupAt H a xs → TupAt H' a xs) (el : ∀ a xs, a ≠ b → H a = some (.lst xs) → H' a = some (.lst xs)) : ∀ (ds : List PyData) {xs : List V}, DAtAll H b xs ds → DAtAll H' b xs ds
  | [], _, h => by unfold DAtAll at h ⊢; exact h
  | d :: ds, _, h => by
    unfold DAtAll at h ⊢
    obtain ⟨x, r, e, q, q'⟩ := h
    exact ⟨x, r, e, DAt.mono et el d q, DAtAll.mono et el ds q'⟩
end
theorem DAt.same {H H' : Hp} {b : Addr} (e : Same H H') {d : PyData} {v : V} (h : DAt H b v d) : DAt H' b v d := DAt.mono (fun a _ q => q.same e) (fun a _ _ q => e a _ q) d h
theorem DAt.but {H H' : Hp} {b : Addr} {ys : List V} (e : But b H H') (hb : H b = some (.lst ys)) {d : PyData} {v : V} (h : DAt H b v d) : DAt H' b v d :=
  DAt.mono (fun a _ q => q.but e hb) (fun a _ n q => e a _ q n) d h
theorem DAtAll.same {H H' : Hp} {b : Addr} (e : Same H H') {ds : List PyData} {xs : List V} (h : DAtAll H b xs ds) : DAtAll H' b xs ds := DAtAll.mono (fun a _ q => q.same e) (fun a _ _ q => e a _ q) ds h
theorem DAtAll.but {H H' : Hp} {b : Addr} {ys : List V} (e : But b H H') (hb : H b = some (.lst ys)) {ds : List PyData} {xs : List V} (h : DAtAll H b xs ds) : DAtAll H' b xs ds :=
  DAtAll.mono (fun a _ q => q.but e hb) (fun a _ n q => e a _ q n) ds h
theorem DAtAll.nil {H : Hp} {b : Addr} : DAtAll H b [] [] := by unfold DAtAll; rfl
theorem DAtAll.cons {H : Hp} {b : Addr} {x : V} {xs : List V} {d : PyData} {ds : List PyData} (h : DAt H b x d) (h' : DAtAll H b xs ds) : DAtAll H b (x :: xs) (d :: ds) := by unfold DAtAll; exact ⟨x, xs, rfl, h, h'⟩
theorem DAtAll.head {H : Hp} {b : Addr} {x : V} {xs : List V} {ds : List PyData} (h : DAtAll H b (x :: xs) ds) : ∃ d ds', ds = d :: ds' ∧ DAt H b x d ∧ DAtAll H b xs ds' := by
  cases ds with
  | nil => unfold DAtAll at h; cases h
  | cons d ds =>
    unfold DAtAll at h
    obtain ⟨y, r, e, q, q'⟩ := h
    cases e
    exact ⟨d, ds, rfl, q, q'⟩
theorem DAtAll.len {H : Hp} {b : Addr} : ∀ {xs : List V} {ds : List PyData}, DAtAll H b xs ds → xs.length = ds.length
  | xs, [], h => by unfold DAtAll at h; subst h; rfl
  | xs, d :: ds, h => by
    unfold DAtAll at h
    obtain ⟨x, r, rfl, _, q⟩ := h
    rw [List.length_cons, List.length_cons, DAtAll.len q]
theorem DAtAll.append {H : Hp} {b : Addr} : ∀ {xs ys : List V} {ds es : List PyData}, DAtAll H b xs ds → DAtAll H b ys es → DAtAll H b (xs ++ ys) (ds ++ es)
  | xs, ys, [], es, h, h' => by unfold DAtAll at h; subst h; exact h'
  | xs, ys, d :: ds, es, h, h' => by
    unfold DAtAll at h
    obtain ⟨x, r, rfl, q, q'⟩ := h
    exact .cons q (DAtAll.append q' h')
theorem DAtAll.parted {H : Hp} {b : Addr} : ∀ {xs ys : List V} {ds : List PyData}, DAtAll H b (xs ++ ys) ds → ∃ d1 d2, ds = d1 ++ d2 ∧ DAtAll H b xs d1 ∧ DAtAll H b ys d2
  | [], ys, ds, h => ⟨[], ds, rfl, .nil, h⟩
  | x :: xs, ys, ds, h => by
    obtain ⟨d, ds', rfl, q, q'⟩ := DAtAll.head h
    obtain ⟨d1, d2, rfl, h1, h2⟩ := DAtAll.parted q'
    exact ⟨d :: d1, d2, rfl, .cons q h1, h2⟩
theorem DAtAll.take {H : Hp} {b : Addr} : ∀ {xs : List V} {ds : List PyData} (n : Nat), DAtAll H b xs ds → DAtAll H b (xs.take n) (ds.take n)
  | xs, ds, 0, h => by simp; exact .nil
  | [], ds, n + 1, h => by have := h.len; cases ds with | nil => simpa using DAtAll.nil | cons => simp at this
  | x :: xs, ds, n + 1, h => by
    obtain ⟨d, ds', rfl, q, q'⟩ := DAtAll.head h
    exact .cons q (DAtAll.take n q')
theorem DAtAll.drop {H : Hp} {b : Addr} : ∀ {xs : List V} {ds : List PyData} (n : Nat), DAtAll H b xs ds → DAtAll H b (xs.drop n) (ds.drop n)
  | xs, ds, 0, h => by simpa using h
  | [], ds, n + 1, h => by have := h.len; cases ds with | nil => simpa using DAtAll.nil | cons => simp at this
  | x :: xs, ds, n + 1, h => by
    obtain ⟨d, ds', rfl, q, q'⟩ := DAtAll.head h
    simpa using DAtAll.drop n q'
theorem DAtAll.back {H : Hp} {b : Addr} : ∀ {xs : List V} {ds : List PyData}, DAtAll H b xs ds → DAtAll H b xs.reverse ds.reverse
  | [], ds, h => by have := h.len; cases ds with | nil => simpa using DAtAll.nil | cons => simp at this
  | x :: xs, ds, h => by
    obtain ⟨d, ds', rfl, q, q'⟩ := DAtAll.head h
    rw [List.reverse_cons, List.reverse_cons]
    exact (DAtAll.back q').append (.cons q .nil)
theorem DAtAll.get {H : Hp} {b : Addr} : ∀ {xs : List V} {ds : List PyData} {i : Nat} {x : V}, DAtAll H b xs ds → xs[i]? = some x → ∃ d, ds[i]? = some d ∧ DAt H b x d
  | [], ds, i, x, h, e => by simp at e
  | y :: xs, ds, 0, x, h, e => by
    obtain ⟨d, ds', rfl, q, q'⟩ := DAtAll.head h
    simp at e
    subst e
    exact ⟨d, rfl, q⟩
  | y :: xs, ds, i + 1, x, h, e => by
    obtain ⟨d, ds', rfl, q, q'⟩ := DAtAll.head h
    simpa using DAtAll.get q' (by simpa using e)
/-! ### TERMs as data -/
def tmD : Tm → PyData
  | .v n => .int n
  | .z => .tuple [.str "0"]
  | .s t => .tuple [.str "s", tmD t]
  | .f l r => .tuple [.str "f", tmD l, tmD r]
theorem TmAt.dat {H : Hp} {b : Addr} {v : V} {t : Tm} (h : TmAt H v t) : DAt H b v (tmD t) := by
  induction h with
  | v n => unfold tmD DAt; rfl
  | z h => unfold tmD DAt; exact ⟨_, _, rfl, .inl h, .cons (by unfold DAt; rfl) .nil⟩
  | s h _ ih => unfold tmD DAt; exact ⟨_, _, rfl, .inl h, .cons (by unfold DAt; rfl) (.cons ih .nil)⟩
  | f h _ _ ih ih' => unfold tmD DAt; exact ⟨_, _, rfl, .inl h, .cons (by unfold DAt; rfl) (.cons ih (.cons ih' .nil))⟩
theorem DAtAll.nil_of {H : Hp} {b : Addr} {xs : List V} (h : DAtAll H b xs []) : xs = [] := by unfold DAtAll at h; exact h
theorem DAtAll.cons_of {H : Hp} {b : Addr} {xs : List V} {d : PyData} {ds : List PyData} (h : DAtAll H b xs (d :: ds)) : ∃ x r, xs = x :: r ∧ DAt H b x d ∧ DAtAll H b r ds := by unfold DAtAll at h; exact h
theorem DAt.str_of {H : Hp} {b : Addr} {v : V} {x : Str} (h : DAt H b v (.str x)) : v = .str x := by unfold DAt at h; exact h
theorem DAt.int_of {H : Hp} {b : Addr} {v : V} {x : Int} (h : DAt H b v (.int x)) : v = .int x := by unfold DAt at h; exact h
theorem DAt.tup_of {H : Hp} {b : Addr} {v : V} {ds : List PyData} (h : DAt H b v (.tuple ds)) : ∃ (a : Addr) (xs : List V), v = .ref a ∧ TupAt H a xs ∧ DAtAll H b xs ds := by unfold DAt at h; exact h
theorem DAt.lst_of {H : Hp} {b : Addr} {v : V} {ds : List PyData} (h : DAt H b v (.list ds)) : ∃ (a : Addr) (xs : List V), v = .ref a ∧ a ≠ b ∧ H a = some (.lst xs) ∧ DAtAll H b xs ds := by unfold DAt at h; exact h
def IsT (d : PyData) : Prop := ∃ t, d = tmD t ∧ ∀ n ∈ t.nums, 0 ≤ n ∧ n ≤ 99
/-- a sign with as many parts as it takes -/
def Shaped (d : PyData) : Prop := ∃ (x : Str) (ds : List PyData), d = .tuple (.str x :: ds) ∧ ((x = "0" ∧ ds.length = 0) ∨ (x = "s" ∧ ds.length = 1) ∨ (x = "f" ∧ ds.length = 2))
theorem isT_shaped {x : Str} {ds : List PyData} (h : (x = "0" ∧ ds.length = 0) ∨ (x = "s" ∧ ds.length = 1) ∨ (x = "f" ∧ ds.length = 2)) : IsT (.tuple (.str x :: ds)) ↔ ∀ d ∈ ds, IsT d := by
  have s0 : ("0" : Str) ≠ "s" := by decide +kernel
  have s1 : ("0" : Str) ≠ "f" := by decide +kernel
  have s2 : ("s" : Str) ≠ "f" := by decide +kernel
  rcases h with ⟨rfl, h⟩ | ⟨rfl, h⟩ | ⟨rfl, h⟩
  · match ds, h with
    | [], _ => exact ⟨fun _ d hd => by simp at hd, fun _ => ⟨.z, rfl, fun n hn => by simp [Tm.nums] at hn⟩⟩
  · match ds, h with
    | [d], _ =>
      constructor
      · rintro ⟨t, e, g⟩ d' hd
        simp at hd
        subst hd
        cases t with
        | s t => unfold tmD at e; injection e with e; injection e with _ e; injection e with e _; exact ⟨t, e, g⟩
        | v n => cases e
        | z => unfold tmD at e; injection e with e; injection e with e _; injection e with e; exact absurd e.symm s0
        | f l r => unfold tmD at e; injection e with e; injection e with e _; injection e with e; exact absurd e s2
      · intro h
        obtain ⟨t, rfl, g⟩ := h d (by simp)
        exact ⟨.s t, rfl, g⟩
  · match ds, h with
    | [d, d'], _ =>
      constructor
      · rintro ⟨t, e, g⟩ d2 hd
        cases t with
        | f l r =>
          unfold tmD at e
          injection e with e
          injection e with _ e
          injection e with e1 e
          injection e with e2 _
          simp at hd
          rcases hd with rfl | rfl
          · exact ⟨l, e1, fun n hn => g n (by simp [Tm.nums, hn])⟩
          · exact ⟨r, e2, fun n hn => g n (by simp [Tm.nums, hn])⟩
        | v n => cases e
        | z => unfold tmD at e; injection e with e; injection e with e _; injection e with e; exact absurd e.symm s1
        | s t => unfold tmD at e; injection e with e; injection e with e _; injection e with e; exact absurd e.symm s2
      · intro h
        obtain ⟨l, rfl, g1⟩ := h d (by simp)
        obtain ⟨r, rfl, g2⟩ := h d' (by simp)
        refine ⟨.f l r, rfl, fun n hn => ?_⟩
        rcases List.mem_append.mp hn with q | q
        · exact g1 n q
        · exact g2 n q
theorem isT_int {n : Int} : IsT (.int n) ↔ 0 ≤ n ∧ n ≤ 99 := by
  constructor
  · rintro ⟨t, e, g⟩
    cases t with
    | v m => unfold tmD at e; injection e with e; subst e; exact g _ (by simp [Tm.nums])
    | z => cases e
    | s t => cases e
    | f l r => cases e
  · intro h
    exact ⟨.v n, rfl, fun m hm => by simp [Tm.nums] at hm; subst hm; exact h⟩
theorem isT_other {d : PyData} (h : ¬ Shaped d) (h' : ∀ n, d ≠ .int n) : ¬ IsT d := by
  rintro ⟨t, rfl, g⟩
  cases t with
  | v n => exact h' n rfl
  | z => exact h ⟨"0", [], rfl, .inl ⟨rfl, rfl⟩⟩
  | s t => exact h ⟨"s", [_], rfl, .inr (.inl ⟨rfl, rfl⟩)⟩
  | f l r => exact h ⟨"f", [_, _], rfl, .inr (.inr ⟨rfl, rfl⟩)⟩
end Rp

namespace Rp
open PySem PySem.Spec PyProof.Rows L2
def tyD : PyData → String
  | .none => "NoneType" | .bool _ => "bool" | .int _ => "int" | .str _ => "str" | .list _ => "list" | .tuple _ => "tuple" | .dict _ => "dict"
theorem DAt.tyx {K : PySem.W.Frag} {H : Hp} {b : Addr} {v : V} {d : PyData} (h : DAt H b v d) : TyX K H v (.type (tyD d)) := by
  cases d with
  | none => unfold DAt at h; subst h; exact .base .non
  | bool c => unfold DAt at h; subst h; exact .base (.bl c)
  | int i => unfold DAt at h; subst h; exact .base (.int i)
  | str x => unfold DAt at h; subst h; exact .base (.str x)
  | list ds => obtain ⟨a, xs, rfl, _, e, _⟩ := h.lst_of; exact .base (.lst e)
  | tuple ds => obtain ⟨a, xs, rfl, e, _⟩ := h.tup_of; rcases e with e | ⟨o, e⟩; exact .base (.tup e); exact .fTuple e
  | dict ds => unfold DAt at h; exact h.elim
def isI : PyData → Bool | .int _ => true | .bool _ => true | _ => false
def isB : PyData → Bool | .bool _ => true | _ => false
def isS : PyData → Bool | .str _ => true | _ => false
def isU : PyData → Bool | .tuple _ => true | _ => false
def isL : PyData → Bool | .list _ => true | _ => false
def isNum : PyData → Bool | .int _ => true | _ => false
section
variable {K : PySem.W.Frag}
theorem kitI (d : PyData) : PySem.W.kitOne K (.type (tyD d)) (.type "int") = some (isI d) := by cases d <;> exact kit_ty (by simp only [tyD, isI]; decide +kernel)
theorem kitB' (d : PyData) : PySem.W.kitOne K (.type (tyD d)) (.type "bool") = some (isB d) := by cases d <;> exact kit_ty (by simp only [tyD, isB]; decide +kernel)
theorem kitS (d : PyData) : PySem.W.kitOne K (.type (tyD d)) (.type "str") = some (isS d) := by cases d <;> exact kit_ty (by simp only [tyD, isS]; decide +kernel)
theorem kitU (d : PyData) : PySem.W.kitOne K (.type (tyD d)) (.type "tuple") = some (isU d) := by cases d <;> exact kit_ty (by simp only [tyD, isU]; decide +kernel)
theorem kitL (d : PyData) : PySem.W.kitOne K (.type (tyD d)) (.type "list") = some (isL d) := by cases d <;> exact kit_ty (by simp only [tyD, isL]; decide +kernel)
end
def okD (d : PyData) : Prop := d.canLay0 = true ∧ d.depth ≤ 60
theorem okAll {ds : List PyData} (h : PyData.canLayAll0 ds = true) (k : Nat) (hk : PyData.depthAll ds ≤ k) : ∀ d ∈ ds, d.canLay0 = true ∧ d.depth ≤ k := by
  induction ds with
  | nil => intro d hd; simp at hd
  | cons x ds ih =>
    simp only [PyData.canLayAll0, Bool.and_eq_true] at h
    simp only [PyData.depthAll] at hk
    intro d hd
    rcases List.mem_cons.mp hd with rfl | hd
    · exact ⟨h.1, by omega⟩
    · exact ih h.2 (by omega) d hd
theorem okD.tup {ds : List PyData} (h : okD (.tuple ds)) : ∀ d ∈ ds, okD d := fun d hd => by
  have h1 : PyData.canLayAll0 ds = true := by have := h.1; simpa [PyData.canLay0] using this
  have h2 : PyData.depthAll ds + 1 ≤ 60 := by have := h.2; simpa [PyData.depth] using this
  have := okAll h1 59 (by omega) d hd
  exact ⟨this.1, by omega⟩
theorem eqv_str {x : Str} {d : PyData} : PyData.eqv (.str x) d = true ↔ d = .str x := by
  cases d <;> simp [PyData.eqv]
  exact eq_comm
theorem eqv_tup {xs ys : List PyData} : PyData.eqv (.tuple xs) (.tuple ys) = PyData.eqvAll xs ys := by simp only [PyData.eqv]
theorem eqv_int {i j : Int} : PyData.eqv (.int i) (.int j) = (i == j) := by simp only [PyData.eqv]
theorem eqvAll_cons {x y : PyData} {xs ys : List PyData} : PyData.eqvAll (x :: xs) (y :: ys) = (PyData.eqv x y && PyData.eqvAll xs ys) := by simp only [PyData.eqvAll]
theorem eqvAll_nil : PyData.eqvAll [] [] = true := by simp only [PyData.eqvAll]
theorem hu65 {A : Around} {k : Nat} (hr : Room k A) : A.units + 65 < cLine := by have := hr.un; omega
def shapesD : PyData := .tuple [.tuple [.str "0", .int 1], .tuple [.str "s", .int 2], .tuple [.str "f", .int 3]]
def shapesL : List PyData := [.tuple [.str "0", .int 1], .tuple [.str "s", .int 2], .tuple [.str "f", .int 3]]
theorem shapes_any {d0 : PyData} {ds : List PyData} : (shapesL.any fun y => PyData.eqv y (.tuple [d0, .int ((ds.length + 1 : Nat) : Int)])) = true ↔ Shaped (.tuple (d0 :: ds)) := by
  have one : ∀ (x : Str) (n : Int), PyData.eqv (.tuple [.str x, .int n]) (.tuple [d0, .int ((ds.length + 1 : Nat) : Int)]) = true ↔ d0 = .str x ∧ n = ((ds.length + 1 : Nat) : Int) := by
    intro x n
    rw [eqv_tup, eqvAll_cons, eqvAll_cons, eqvAll_nil, eqv_int]
    simp only [Bool.and_true, Bool.and_eq_true, eqv_str, beq_iff_eq]
  simp only [shapesL, List.any_cons, List.any_nil, Bool.or_false, Bool.or_eq_true, one]
  constructor
  · rintro (⟨rfl, e⟩ | ⟨rfl, e⟩ | ⟨rfl, e⟩)
    · exact ⟨"0", ds, rfl, .inl ⟨rfl, by omega⟩⟩
    · exact ⟨"s", ds, rfl, .inr (.inl ⟨rfl, by omega⟩)⟩
    · exact ⟨"f", ds, rfl, .inr (.inr ⟨rfl, by omega⟩)⟩
  · rintro ⟨x, ds', e, h⟩
    injection e with e
    injection e with e1 e2
    subst e1 e2
    rcases h with ⟨rfl, h⟩ | ⟨rfl, h⟩ | ⟨rfl, h⟩
    · exact .inl ⟨rfl, by omega⟩
    · exact .inr (.inl ⟨rfl, by omega⟩)
    · exact .inr (.inr ⟨rfl, by omega⟩)
/-- x in t, t a tuple of data of any depth -/
def rInT (K : PySem.W.Frag) : R2 := fun x y H Q => ∃ (d : PyData) (ds : List PyData), Dp K H x d ∧ Dp K H y (.tuple ds) ∧ SeqAt.shaped d = true ∧ SeqAt.shaped (.tuple ds) = true ∧ Q (.bl (ds.any fun y => PyData.eqv y d)) H
section
variable {X : Cx}
theorem op_inT (hu : X.A.units + 65 < cLine) : OpR X (compareOp .In) (rInT X.K) := by
  intro pins s σ H x y v u Q I rx ry h
  obtain ⟨d, ds, hd, he, sd, se, q⟩ := h
  obtain ⟨as, r1⟩ := Dp.reads I d x v hd rx
  obtain ⟨bs, r2⟩ := Dp.reads I (.tuple ds) y u he ry
  exact SeqAt.in_tuple_reads r2 r1 (SeqAt.canLay_of_shaped se) (SeqAt.canLay_of_shaped sd) (room_in_shaped sd hu) ⟨.bl _, H, I, rfl, q⟩
end
theorem shaped_of {d : PyData} (h : d.canLay0 = true) (h' : d.depth ≤ 64) : SeqAt.shaped d = true := by
  show (d.canLay0 && decide (d.depth ≤ 64)) = true
  rw [h, decide_eq_true h']
  rfl
def spNumber : Sp := fun vs H Q _ => ∃ (b : Addr) (v : V) (d : PyData), vs = [v] ∧ DAt H b v d ∧ Q (.bl (isNum d)) H
def isVar : PyData → Bool | .int n => decide (0 ≤ n) && decide (n ≤ 99) | _ => false
def spVariable : Sp := fun vs H Q _ => ∃ (b : Addr) (v : V) (d : PyData), vs = [v] ∧ DAt H b v d ∧ Q (.bl (isVar d)) H
def spShape : Sp := fun vs H Q _ => ∃ (b : Addr) (v : V) (d : PyData), vs = [v] ∧ DAt H b v d ∧ okD d ∧ ∀ (r : Bool) (H' : Hp), (r = true ↔ Shaped d) → Same H H' → Q (.bl r) H'
section
variable {P : Program} {w : World} {K : PySem.W.Frag} {mg : Str → Option Value} {base : Heap}
theorem scNumber : FnScope ["thing"] ["thing"] (defScope sNumber) := ⟨rfl, rfl, rfl, by decide +kernel, rfl, by decide +kernel, by decide +kernel⟩
theorem ok_number {f : Addr} {fd : FuncData} (F : Fun K "is_number" "is_number" sNumber f fd) (M : SameG mg) : FnOk P w K mg base CX0 1 f fd ["thing"] spNumber := by
  refine F.ok scNumber (fun vs H Q E h => ?_) (fun cdv A outer s H vs Q E hr h => ?_)
  · obtain ⟨b, v, d, rfl, _⟩ := h
    rfl
  obtain ⟨b, v, d, rfl, D, q⟩ := h
  refine ⟨_, pss_one (ps_ret (pe_and (pe_callB (id := "isinstance") call_isi (by rfl) M.isi (by decide +kernel) (pa_cons (pv 0) (pa_cons (pe_bltn (v := .ty "int") (by rfl) M.int (by decide +kernel) rfl) pa_nil)))
    (pe_one (pe_not (pe_callB (id := "isinstance") call_isi (by rfl) M.isi (by decide +kernel) (pa_cons (pv 0) (pa_cons (pe_bltn (v := .ty "bool") (by rfl) M.bool (by decide +kernel) rfl) pa_nil))))))), ?_⟩
  refine ⟨_, rfl, _, _, _, _, isI d, rfl, .ty "int", D.tyx, kitI d, isI d, rfl, ?_⟩
  have second : (fun (σ : L2.St) => isI d = true → isB d = !(isNum d)) [] := by cases d <;> simp [isI, isB, isNum]
  have first : isI d = false → isNum d = false := by cases d <;> simp [isI, isNum]
  cases e : isI d with
  | false => exact iteF (by have z := first e; rw [z] at q; exact q)
  | true =>
    refine iteT ⟨_, rfl, _, _, _, _, isB d, rfl, .ty "bool", D.tyx, kitB' d, isB d, rfl, ?_⟩
    have z := second e
    rw [z]
    simpa using q
theorem scVariable : FnScope ["thing"] ["thing"] (defScope sVariable) := ⟨rfl, rfl, rfl, by decide +kernel, rfl, by decide +kernel, by decide +kernel⟩
theorem ok_variable {f fN : Addr} {fd fdN : FuncData} {tk : Tok} (F : Fun K "is_variable" "is_variable" sVariable f fd) (GN : FnOk P w K mg base CX0 1 fN fdN ["thing"] spNumber) (kN : PySem.W.keepIn K (.ref fN) = true) (bN : Binds K fdN ["thing"] []) (mN : mg "is_number" = some (.ref fN))
    (mLast : mg "LAST_VARIABLE" = some (.int 99 tk)) : FnOk P w K mg base CX0 2 f fd ["thing"] spVariable := by
  refine F.ok scVariable (fun vs H Q E h => ?_) (fun cdv A outer s H vs Q E hr h => ?_)
  · obtain ⟨b, v, d, rfl, _⟩ := h
    rfl
  obtain ⟨b, v, d, rfl, D, q⟩ := h
  refine ⟨_, pss_one (ps_ret (pe_and (pe_call GN hr rfl mN kN bN .nil pass0 (pa_cons (pv 0) pa_nil)) (pe_one (pe_chain op_le op_le pe_int (pv 0) (pe_glob (v := .int 99) rfl mLast ⟨_, rfl⟩))))), ?_⟩
  refine ⟨_, rfl, b, v, d, rfl, D, isNum d, rfl, ?_⟩
  cases d with
  | int n =>
    have ev := D.int_of
    subst ev
    refine iteT ⟨_, rfl, _, _, rfl, rfl, decide (0 ≤ n), rfl, ?_⟩
    cases e : decide (0 ≤ n) with
    | false => exact iteF (by simpa [isVar, e] using q)
    | true => exact iteT ⟨_, _, rfl, rfl, by simpa [isVar, e] using q⟩
  | _ => exact iteF q
theorem scShape : FnScope ["thing"] ["thing"] (defScope sShape) := ⟨rfl, rfl, rfl, by decide +kernel, rfl, by decide +kernel, by decide +kernel⟩
theorem ok_shape {f aS : Addr} {fd : FuncData} (F : Fun K "_has_shape" "_has_shape" sShape f fd) (M : SameG mg) (mS : mg "SHAPES" = some (.ref aS)) (hS : ∀ H, Dp K H (.ref aS) shapesD) : FnOk P w K mg base CX0 1 f fd ["thing"] spShape := by
  refine F.ok scShape (fun vs H Q E h => ?_) (fun cdv A outer s H vs Q E hr h => ?_)
  · obtain ⟨b, v, d, rfl, _⟩ := h
    rfl
  obtain ⟨b, v, d, rfl, D, ok, q⟩ := h
  refine ⟨_, pss_cons (ps_if (PW.pt (pw_or (pt_not (pt_val (pe_callB (id := "isinstance") call_isi (by rfl) M.isi (by decide +kernel) (pa_cons (pv 0) (pa_cons (pe_bltn (v := .ty "tuple") (by rfl) M.tuple (by decide +kernel) rfl) pa_nil)))))
      (pw_or1 (pt_not (pt_truth (pv 0) (by intro _; rfl)))))) (pss_one (ps_ret pe_bl)) pss_nil)
    (pss_one (ps_ret (pe_cmpR (op_inT (hu65 hr)) (pe_tup (pa_cons (pe_ix ix_tup (pv 0) pe_int (fun _ _ => rfl)) (pa_cons (pe_callB call_len_seq (by rfl) M.len PySem.boot_len (pa_cons (pv 0) pa_nil)) pa_nil))) (pe_glob (v := .ref aS) rfl mS rfl) (by rfl)))), ?_⟩
  refine ⟨_, rfl, _, _, _, _, isU d, rfl, .ty "tuple", D.tyx, kitU d, isU d, rfl, ?_⟩
  cases d with
  | tuple ds =>
    obtain ⟨a, xs, rfl, ha, A'⟩ := D.tup_of
    refine iteF ⟨_, rfl, !xs.isEmpty, .inr (.inl ⟨xs, .inl ha, rfl⟩), ?_⟩
    cases xs with
    | nil =>
      refine iteT (q false H ⟨(fun e => nomatch e), ?_⟩ (Same.refl H))
      rintro ⟨x, ds', e, _⟩
      injection e with e
      subst e
      have := A'.len
      simp at this
    | cons x0 xr =>
      obtain ⟨d0, dr, rfl, D0, Dr⟩ := A'.head
      have el := Dr.len
      refine iteF ⟨_, rfl, a, _, _, _, rfl, rfl, .inl ha, at_of (j := 0) rfl rfl, _, rfl, a, _, rfl, .inr (.inl ha), (by show 2 ≤ sizeLine; decide), fun p hp => ?_⟩
      have s1 := same_new hp (.tup [x0, .int (((x0 :: xr).length : Nat) : Int)])
      have o0 := ok.tup d0 (by simp)
      refine ⟨.tuple [d0, .int ((dr.length + 1 : Nat) : Int)], shapesL, .tup (.inl (.inl upd_same)) (.cons (D0.same s1).dp (.cons ?_ .nil)), hS _, ?_, by decide +kernel, ?_⟩
      · rw [List.length_cons, el]; exact .int _
      · refine shaped_of ?_ ?_
        · simp [PyData.canLay0, PyData.canLayAll0, o0.1]
        · have := o0.2
          simp only [PyData.depth, PyData.depthAll]
          omega
      · exact q _ _ shapes_any s1
  | _ => exact iteT (q false H ⟨(fun e => nomatch e), (fun ⟨x, ds', e, _⟩ => nomatch e)⟩ (Same.refl H))
end
end Rp

/-! Data of small ints and a few short texts: how large they are, what is said of them. -/
namespace Rp
open PySem PySem.Spec PyProof.Rows L2
def okText (x : Str) : Prop := x = "" ∨ x = "0" ∨ x = "s" ∨ x = "f" ∨ x = "x" ∨ x = "g" ∨ x = "x0"
mutual
def fine (U : List Int) : PyData → Prop
  | .none => True | .bool _ => True | .int i => i ∈ U | .str x => okText x | .list ds => fineAll U ds | .tuple ds => fineAll U ds | .dict _ => False
def fineAll (U : List Int) : List PyData → Prop
  | [] => True
  | d :: ds => fine U d ∧ fineAll U ds
end
mutual
def nd : PyData → Nat
  | .list ds => ndAll ds + 1 | .tuple ds => ndAll ds + 1 | _ => 1
def ndAll : List PyData → Nat
  | [] => 0
  | d :: ds => nd d + ndAll ds
end
theorem nd_pos (d : PyData) : 1 ≤ nd d := by cases d <;> simp [nd]
theorem ndAll_append : ∀ a b : List PyData, ndAll (a ++ b) = ndAll a + ndAll b
  | [], b => by simp [ndAll]
  | x :: a, b => by simp only [List.cons_append, ndAll, ndAll_append a b]; omega
theorem ndAll_mem : ∀ {ds : List PyData} {d : PyData}, d ∈ ds → nd d ≤ ndAll ds
  | x :: ds, d, h => by
    simp only [ndAll]
    rcases List.mem_cons.mp h with rfl | h
    · omega
    · have := ndAll_mem h; omega
theorem ndAll_len : ∀ ds : List PyData, ds.length ≤ ndAll ds
  | [] => Nat.le_refl _
  | d :: ds => by have := ndAll_len ds; have := nd_pos d; simp only [ndAll, List.length_cons]; omega
theorem fineAll_iff {U : List Int} : ∀ {ds : List PyData}, fineAll U ds ↔ ∀ d ∈ ds, fine U d
  | [] => by simp [fineAll]
  | d :: ds => by simp only [fineAll, fineAll_iff (ds := ds), List.forall_mem_cons]
theorem depthAll_iff {k : Nat} : ∀ {ds : List PyData}, PyData.depthAll ds ≤ k ↔ ∀ d ∈ ds, d.depth ≤ k
  | [] => by simp [PyData.depthAll]
  | d :: ds => by simp only [PyData.depthAll, List.forall_mem_cons, ← depthAll_iff (ds := ds)]; omega
theorem okText_lay {x : Str} (h : okText x) : PyData.canLay0 (.str x) = true ∧ x.cps.size ≤ 2 := by
  rcases h with rfl | rfl | rfl | rfl | rfl | rfl | rfl <;> exact ⟨by decide +kernel, by decide +kernel⟩
/-- the few ints of a row of data -/
structure Few (U : List Int) : Prop where
  le : ∀ i ∈ U, -1 ≤ i ∧ i ≤ 100
  len : U.length ≤ 20
mutual
theorem fine_lay {U : List Int} (hU : Few U) : ∀ d : PyData, fine U d → d.canLay0 = true ∧ d.showable = true ∧ d.intsShort 13 = true ∧ d.hasDict = false ∧ d.weight + 1 ≤ 110 * nd d
  | .none, _ => ⟨rfl, rfl, rfl, rfl, by decide⟩
  | .bool b, _ => ⟨rfl, rfl, rfl, rfl, by simp [PyData.weight, nd]⟩
  | .int i, h => by
    have h : -1 ≤ i ∧ i ≤ 100 := hU.le i h
    have a : i.natAbs ≤ 100 := by omega
    have b := Nat.log2_le_self i.natAbs
    refine ⟨rfl, ?_, ?_, rfl, ?_⟩
    · simp only [PyData.showable, decide_eq_true_eq]; omega
    · simp only [PyData.intsShort, decide_eq_true_eq]; exact PyData.shown_int_le (by omega)
    · simp only [PyData.weight, nd]; split <;> omega
  | .str x, h => by
    have z := okText_lay h
    refine ⟨z.1, rfl, rfl, rfl, ?_⟩
    simp only [PyData.weight, nd]
    omega
  | .list ds, h => by
    have z := fine_layAll hU ds h
    simp only [PyData.canLay0, PyData.showable, PyData.intsShort, PyData.hasDict, PyData.weight, nd]
    refine ⟨z.1, z.2.1, z.2.2.1, z.2.2.2.1, by omega⟩
  | .tuple ds, h => by
    have z := fine_layAll hU ds h
    simp only [PyData.canLay0, PyData.showable, PyData.intsShort, PyData.hasDict, PyData.weight, nd]
    refine ⟨z.1, z.2.1, z.2.2.1, z.2.2.2.1, by omega⟩
  | .dict _, h => h.elim
theorem fine_layAll {U : List Int} (hU : Few U) : ∀ ds : List PyData, fineAll U ds → PyData.canLayAll0 ds = true ∧ PyData.showableAll ds = true ∧ PyData.intsShortAll 13 ds = true ∧ PyData.hasDictAll ds = false ∧ PyData.weightAll ds ≤ 110 * ndAll ds
  | [], _ => ⟨rfl, rfl, rfl, rfl, by decide⟩
  | d :: ds, h => by
    have h : fine U d ∧ fineAll U ds := h
    have a := fine_lay hU d h.1
    have b := fine_layAll hU ds h.2
    simp only [PyData.canLayAll0, PyData.showableAll, PyData.intsShortAll, PyData.hasDictAll, PyData.weightAll, ndAll, Bool.and_eq_true, Bool.or_eq_false_iff]
    exact ⟨⟨a.1, b.1⟩, ⟨a.2.1, b.2.1⟩, ⟨a.2.2.1, b.2.2.1⟩, ⟨a.2.2.2.1, b.2.2.2.1⟩, by omega⟩
end
/-- fine, of at most n nodes, at most k deep -/
structure Good (U : List Int) (n k : Nat) (d : PyData) : Prop where
  fine : fine U d
  nd : nd d ≤ n
  dp : d.depth ≤ k
theorem Good.more {U : List Int} {n k n' k' : Nat} {d : PyData} (h : Good U n k d) (hn : n ≤ n') (hk : k ≤ k') : Good U n' k' d := ⟨h.fine, by have := h.nd; omega, by have := h.dp; omega⟩
theorem Good.ok {U : List Int} (hU : Few U) {n k : Nat} {d : PyData} (h : Good U n k d) (hk : k ≤ 60) : okD d := ⟨(fine_lay hU d h.fine).1, by have := h.dp; omega⟩
theorem Good.shown {U : List Int} (hU : Few U) {n k : Nat} {d : PyData} (h : Good U n k d) (hn : n ≤ 9000) (hk : k ≤ 60) : d.showable = true ∧ d.hasDict = false ∧ d.depth ≤ 64 ∧ d.shown.length ≤ 15728653 := by
  obtain ⟨h1, h2, h3, h4, h5⟩ := fine_lay hU d h.fine
  have n1 := h.nd
  have k1 := h.dp
  refine ⟨h2, h4, by omega, shown_le13 ?_ h3⟩
  unfold PyData.layable0
  rw [h1, decide_eq_true (by omega : d.depth ≤ 64), decide_eq_true (by omega : d.weight ≤ 2 ^ 20)]
  rfl
theorem Good.tup {U : List Int} {n k : Nat} {ds : List PyData} (h : Good U n k (.tuple ds)) : (∀ d ∈ ds, Rp.fine U d) ∧ ndAll ds + 1 ≤ n ∧ ∀ d ∈ ds, d.depth + 1 ≤ k := by
  refine ⟨fineAll_iff.mp h.fine, by simpa [Rp.nd] using h.nd, fun d hd => ?_⟩
  have k1 : PyData.depthAll ds + 1 ≤ k := by simpa [PyData.depth] using h.dp
  have := depthAll_iff.mp (Nat.le_refl (PyData.depthAll ds)) d hd
  omega
theorem Good.lst {U : List Int} {n k : Nat} {ds : List PyData} (h : Good U n k (.list ds)) : (∀ d ∈ ds, Rp.fine U d) ∧ ndAll ds + 1 ≤ n ∧ ∀ d ∈ ds, d.depth + 1 ≤ k := by
  refine ⟨fineAll_iff.mp h.fine, by simpa [Rp.nd] using h.nd, fun d hd => ?_⟩
  have k1 : PyData.depthAll ds + 1 ≤ k := by simpa [PyData.depth] using h.dp
  have := depthAll_iff.mp (Nat.le_refl (PyData.depthAll ds)) d hd
  omega
theorem good_lst {U : List Int} {n k : Nat} {ds : List PyData} (h : ∀ d ∈ ds, fine U d) (hn : ndAll ds + 1 ≤ n) (hk : ∀ d ∈ ds, d.depth + 1 ≤ k) (k1 : 1 ≤ k) : Good U n k (.list ds) := by
  refine ⟨fineAll_iff.mpr h, by simpa [Rp.nd] using hn, ?_⟩
  have : PyData.depthAll ds ≤ k - 1 := depthAll_iff.mpr fun d hd => by have := hk d hd; omega
  simp only [PyData.depth]
  omega
theorem good_tup {U : List Int} {n k : Nat} {ds : List PyData} (h : ∀ d ∈ ds, fine U d) (hn : ndAll ds + 1 ≤ n) (hk : ∀ d ∈ ds, d.depth + 1 ≤ k) (k1 : 1 ≤ k) : Good U n k (.tuple ds) := by
  refine ⟨fineAll_iff.mpr h, by simpa [Rp.nd] using hn, ?_⟩
  have : PyData.depthAll ds ≤ k - 1 := depthAll_iff.mpr fun d hd => by have := hk d hd; omega
  simp only [PyData.depth]
  omega
/-- a TERM's data are good -/
theorem tm_good {U : List Int} : ∀ t : Tm, (∀ n ∈ t.nums, n ∈ U) → Good U (2 * t.size) (t.deep + 1) (tmD t)
  | .v n, h => ⟨h n (by simp [Tm.nums]), by simp [tmD, Rp.nd, Tm.size], by simp [tmD, PyData.depth]⟩
  | .z, _ => ⟨⟨.inr (.inl rfl), trivial⟩, by simp [tmD, Rp.nd, ndAll, Tm.size], by simp [tmD, PyData.depth, PyData.depthAll]⟩
  | .s t, h => by
    have g := tm_good t h
    have h1 := g.nd
    have h2 := g.dp
    unfold tmD
    refine good_tup (fun d hd => ?_) ?_ (fun d hd => ?_) (by omega)
    · simp at hd; rcases hd with rfl | rfl
      · exact .inr (.inr (.inl rfl))
      · exact g.fine
    · simp only [ndAll, Rp.nd, Tm.size]; omega
    · simp at hd; rcases hd with rfl | rfl
      · simp [PyData.depth, Tm.deep]
      · simp only [Tm.deep]; omega
  | .f l r, h => by
    have g := tm_good l fun n hn => h n (by simp [Tm.nums, hn])
    have g' := tm_good r fun n hn => h n (by simp [Tm.nums, hn])
    have h1 := g.nd
    have h2 := g.dp
    have h3 := g'.nd
    have h4 := g'.dp
    unfold tmD
    refine good_tup (fun d hd => ?_) ?_ (fun d hd => ?_) (by omega)
    · simp at hd; rcases hd with rfl | rfl | rfl
      · exact .inr (.inr (.inr (.inl rfl)))
      · exact g.fine
      · exact g'.fine
    · simp only [ndAll, Rp.nd, Tm.size]; omega
    · simp at hd; rcases hd with rfl | rfl | rfl
      · simp [PyData.depth, Tm.deep]
      · simp only [Tm.deep]; omega
      · simp only [Tm.deep]; omega
/-- ints of a TERM among the data's -/
theorem tm_fine {U : List Int} : ∀ t : Tm, fine U (tmD t) → ∀ n ∈ t.nums, n ∈ U
  | .v n, h, m, hm => by simp [Tm.nums] at hm; subst hm; exact h
  | .z, h, m, hm => by simp [Tm.nums] at hm
  | .s t, h, m, hm => tm_fine t h.2.1 m hm
  | .f l r, h, m, hm => by
    rcases List.mem_append.mp hm with q | q
    · exact tm_fine l h.2.1 m q
    · exact tm_fine r h.2.2.1 m q
theorem nodup_le : ∀ {L U : List Int}, L.Nodup → (∀ k ∈ L, k ∈ U) → L.length ≤ U.length
  | [], U, _, _ => Nat.zero_le _
  | x :: L, U, h, hs => by
    rw [List.nodup_cons] at h
    have hx := hs x (by simp)
    have := nodup_le (L := L) (U := U.erase x) h.2 fun k hk => (List.mem_erase_of_ne (fun e => h.1 (by rw [← e]; exact hk))).mpr (hs k (by simp [hk]))
    rw [List.length_erase_of_mem hx] at this
    have := List.length_pos_of_mem hx
    rw [List.length_cons]
    omega
/-- the other way: a TERM's data tell its size -/
theorem tm_size : ∀ t : Tm, t.size ≤ nd (tmD t) ∧ t.deep ≤ (tmD t).depth
  | .v n => ⟨by simp [tmD, nd, Tm.size], by simp [Tm.deep]⟩
  | .z => ⟨by simp [tmD, nd, Tm.size], by simp [Tm.deep]⟩
  | .s t => by
    have := tm_size t
    simp only [tmD, nd, ndAll, Tm.size, Tm.deep, PyData.depth, PyData.depthAll]
    omega
  | .f l r => by
    have := tm_size l
    have := tm_size r
    simp only [tmD, nd, ndAll, Tm.size, Tm.deep, PyData.depth, PyData.depthAll]
    omega
end Rp

namespace Rp
open PySem PySem.Spec PyProof.Rows L2
def spTerm : Sp := fun vs H Q _ => ∃ (b : Addr) (v : V) (d : PyData), vs = [v] ∧ DAt H b v d ∧ okD d ∧ nd d ≤ 1000 ∧ ∀ (r : Bool) (H' : Hp), (r = true ↔ IsT d) → Same H H' → Q (.bl r) H'
def spVarsU : Sp := fun vs H Q _ => ∃ (v : V) (t : Tm) (U : List Int), vs = [v] ∧ TmAt H v t ∧ t.size ≤ 1000 ∧ (∀ n ∈ t.nums, n ∈ U) ∧ U.length ≤ 60 ∧
  ∀ (p : Addr) (ns : List Int) (H' : Hp), H p = none → H' p = some (.lst (ns.map V.int)) → ns.Pairwise (· < ·) → (∀ k, k ∈ ns ↔ k ∈ t.nums) → Same H H' → Q (.ref p) H'
def spClosed : Sp := fun vs H Q _ => ∃ (b : Addr) (v : V) (d : PyData) (U : List Int), vs = [v] ∧ DAt H b v d ∧ Few U ∧ Good U 1000 60 d ∧ ∀ (r : Bool) (H' : Hp), (r = true ↔ ∃ t, d = tmD t ∧ t.nums = []) → Same H H' → Q (.bl r) H'
theorem isVar_iff {d : PyData} (h : ¬ Shaped d) : isVar d = true ↔ IsT d := by
  cases d with
  | int n => rw [isT_int]; simp [isVar]
  | _ => exact ⟨fun e => by simp [isVar] at e, fun e => absurd e (isT_other h fun n z => by cases z)⟩
section
variable {P : Program} {w : World} {K : PySem.W.Frag} {mg : Str → Option Value} {base : Heap}
theorem scTerm : FnScope ["thing", "todo", "part"] ["thing"] (defScope sTerm) := ⟨rfl, rfl, rfl, by decide +kernel, rfl, by decide +kernel, by decide +kernel⟩
theorem ok_term {f fS fV : Addr} {fd dS dV : FuncData} (F : Fun K "is_term" "is_term" sTerm f fd)
    (GS : FnOk P w K mg base CX0 1 fS dS ["thing"] spShape) (kS : PySem.W.keepIn K (.ref fS) = true) (bS : Binds K dS ["thing"] []) (mS : mg "_has_shape" = some (.ref fS))
    (GV : FnOk P w K mg base CX0 2 fV dV ["thing"] spVariable) (kV : PySem.W.keepIn K (.ref fV) = true) (bV : Binds K dV ["thing"] []) (mV : mg "is_variable" = some (.ref fV)) :
    FnOk P w K mg base CX0 3 f fd ["thing"] spTerm := by
  refine F.ok scTerm (fun vs H Q E h => ?_) (fun cdv A outer s H vs Q E hr h => ?_)
  · obtain ⟨b, v, d, rfl, _⟩ := h
    rfl
  obtain ⟨b, v, d, rfl, D, ok, hn, q⟩ := h
  have r1 : Room 1 _ := hr.mono (by decide)
  refine ⟨_, pss_cons (ps_set (i := 1) scTerm.nd rfl (Or.inl rfl) (pe_lst (pa_cons (pv 0) pa_nil)))
    (pss_cons (ps_while PassesOwn.never (pt_truth (pv 1) (by intro _; rfl))
      (pss_cons (ps_set (i := 2) scTerm.nd rfl (Or.inl rfl) (pe_bm0 PySem.F.plainAttrs_list PySem.F.slot_list_pop PySem.F.type_list_pop mt_pop (pv 1)))
      (pss_one (ps_if (pt_val (pe_call GS r1 rfl mS kS bS .nil pass0 (pa_cons (pv 2) pa_nil)))
        (pss_one (ps_expr (pe_bm PySem.F.plainAttrs_list PySem.F.slot_list_extend PySem.F.type_list_extend mt_extendT (pv 1) (pa_cons (pe_slice sl_tup (pv 2) (po_some pe_int) po_none) pa_nil))))
        (pss_one (ps_if (pt_not (pt_val (pe_call GV hr rfl mV kV bV .nil pass0 (pa_cons (pv 2) pa_nil)))) (pss_one (ps_ret pe_bl)) pss_nil))))))
    (pss_one (ps_ret pe_bl))), ?_⟩
  refine ⟨_, rfl, (by show 1 ≤ sizeLine; decide), fun p hp => ?_⟩
  have s1 := same_new hp (.lst [v])
  dsimp only [gName, tSeq]
  refine ⟨fun m σ H2 => ∃ (txs : List V) (ds : List PyData) (x : Option V), σ = [some v, some (.ref p), x] ∧ H2 p = some (.lst txs) ∧ DAtAll H b txs ds ∧ (IsT d ↔ ∀ e ∈ ds, IsT e) ∧ (∀ e ∈ ds, okD e) ∧ ndAll ds ≤ 1000 ∧ m = ndAll ds ∧ Same H H2,
    ⟨nd d, [v], [d], none, rfl, upd_same, .cons D .nil, by simp, by simpa using ok, by simp [ndAll]; exact hn, by simp [ndAll], s1⟩, ?_⟩
  rintro m σ H2 ⟨txs, ds, x, rfl, h2, A1, iff, oks, few, rfl, sH⟩
  refine ⟨_, rfl, !txs.isEmpty, .inl ⟨txs, .inl (.inl h2), rfl⟩, ?_⟩
  rcases List.eq_nil_or_concat txs with e | ⟨M, y, e⟩
  · subst e
    refine iteF ?_
    have e2 : ds = [] := by have := A1.len; cases ds with | nil => rfl | cons => simp at this
    subst e2
    exact q true H2 ⟨fun _ => iff.mpr (by simp), fun _ => rfl⟩ sH
  · rw [List.concat_eq_append] at e
    subst e
    have ne : (!(M ++ [y]).isEmpty) = true := by simp
    rw [ne]
    refine iteT ⟨_, fun _ _ h => h, ?_⟩
    obtain ⟨L, k', e2, AM, Ay⟩ := A1.parted
    subst e2
    obtain ⟨k, rest, rfl, Dk, Ar⟩ := Ay.head
    obtain rfl : rest = [] := by have := Ar.len; cases rest with | nil => rfl | cons => simp at this
    have okk : okD k := oks k (by simp)
    have ilast : IsT d ↔ (∀ e ∈ L, IsT e) ∧ IsT k := by
      rw [iff]
      constructor
      · intro h; exact ⟨fun e he => h e (by simp [he]), h k (by simp)⟩
      · intro h e he
        rcases List.mem_append.mp he with he | he
        · exact h.1 e he
        · simp at he; subst he; exact h.2
    rw [ndAll_append] at few
    -- part = todo.pop()
    refine ⟨_, rfl, .inl ⟨rfl, _, .inl (.inl h2)⟩, p, _, y, rfl, rfl, h2, by simp, ?_⟩
    rw [List.dropLast_concat]
    have pn : H p = none := hp
    have s3 : Same H (upd H2 p (.lst M)) := fun c o z => by rw [upd_ne (ne_of_none z pn)]; exact sH c o z
    have nk : ndAll [k] = nd k := by simp [ndAll]
    refine ⟨_, rfl, b, y, k, rfl, Dk.same s3, okk, fun r H4 hr4 s4 => ?_⟩
    have h4 := s4 _ _ (upd_same : (upd H2 p (.lst M)) p = some (.lst M))
    have sH4 : Same H H4 := s3.trans s4
    cases r with
    | true =>
      refine ⟨true, rfl, iteT ?_⟩
      obtain ⟨sg, ds', rfl, sh⟩ := hr4.mp rfl
      obtain ⟨a, xs, rfl, ha, Ak⟩ := Dk.tup_of
      obtain ⟨x0, ks, rfl, D0, Dks⟩ := Ak.cons_of
      have nks : nd (PyData.tuple (.str sg :: ds')) = ndAll ds' + 2 := by simp [nd, ndAll]; omega
      refine ⟨_, rfl, .inl ⟨rfl, M, .inl (.inl h4)⟩, _, rfl, 1, rfl, a, _, rfl, .inl (ha.same sH4), cut_part _ _, fun g hg => ?_⟩
      rw [cut_tail]
      have s5 := same_new hg (.tup ks)
      have lim : M.length + ks.length ≤ sizeLine := by
        have a1 := AM.len
        have a2 := Dks.len
        have a3 := ndAll_len L
        have a4 := ndAll_len ds'
        have a5 : (1000 : Nat) + 1000 ≤ sizeLine := by decide
        omega
      refine ⟨p, g, M, ks, rfl, rfl, s5 _ _ h4, .inl (.inl upd_same), lim, ?_⟩
      refine ⟨ndAll (L ++ ds'), ?_, M ++ ks, L ++ ds', _, rfl, upd_same, AM.append Dks, ?_, ?_, ?_, rfl, ?_⟩
      · rw [ndAll_append, ndAll_append]; omega
      · rw [ilast, isT_shaped sh]
        constructor
        · rintro ⟨h1, h2⟩ e he
          rcases List.mem_append.mp he with he | he
          · exact h1 e he
          · exact h2 e he
        · intro h
          exact ⟨fun e he => h e (by simp [he]), fun e he => h e (by simp [he])⟩
      · intro e he
        rcases List.mem_append.mp he with he | he
        · exact oks e (by simp [he])
        · exact okk.tup e (by simp [he])
      · rw [ndAll_append]; omega
      · intro c o z
        rw [upd_ne (ne_of_none z pn)]
        exact s5 _ _ (sH4 _ _ z)
    | false =>
      refine ⟨false, rfl, iteF ?_⟩
      have ns : ¬ Shaped k := fun z => by have := hr4.mpr z; cases this
      refine ⟨_, rfl, b, y, k, rfl, Dk.same sH4, isVar k, rfl, ?_⟩
      cases ev : isVar k with
      | false =>
        refine iteT (q false H4 ⟨(fun e => nomatch e), fun z => ?_⟩ sH4)
        have := (isVar_iff ns).mpr (ilast.mp z).2
        rw [ev] at this
        cases this
      | true =>
        refine iteF ?_
        have tk := (isVar_iff ns).mp ev
        refine ⟨ndAll L, ?_, M, L, _, rfl, h4, AM, ?_, fun e he => oks e (by simp [he]), by omega, rfl, sH4⟩
        · rw [ndAll_append, nk]; have := nd_pos k; omega
        · rw [ilast]; exact ⟨fun h => h.1, fun h => ⟨h, tk⟩⟩
end
end Rp

namespace Rp
open PySem PySem.Spec PyProof.Rows L2
def spIsTree (n : Nat) : Sp := fun vs H Q _ => ∃ (b : Addr) (v : V) (d : PyData), vs = [v] ∧ DAt H b v d ∧ okD d ∧ d.depth < n ∧ ∀ (r : Bool) (H' : Hp), (r = true ↔ IsT d) → Same H H' → Q (.bl r) H'
theorem three_in {x : Str} : inV (.str x) [.str "0", .str "s", .str "f"] = decide (x = "0" ∨ x = "s" ∨ x = "f") := by
  have e : ∀ a : Str, eqV (.str a) (.str x) = decide (x = a) := fun a => by unfold eqV; rw [Bool.eq_iff_iff]; simp; exact eq_comm
  simp [inV, e]
def arity : List (Key × V) := [(.inr "0", .int 1), (.inr "s", .int 2), (.inr "f", .int 3)]
theorem arity_0 : valV (mergeK [] arity) (.inr "0") = some (.int 1) := by decide +kernel
theorem arity_s : valV (mergeK [] arity) (.inr "s") = some (.int 2) := by decide +kernel
theorem arity_f : valV (mergeK [] arity) (.inr "f") = some (.int 3) := by decide +kernel
theorem eqv_nil {ds : List PyData} : PyData.eqv (.tuple ds) (.tuple []) = ds.isEmpty := by
  rw [eqv_tup]
  cases ds <;> simp [PyData.eqvAll]
section
variable {P : Program} {w : World} {K : PySem.W.Frag} {mg : Str → Option Value} {base : Heap}
theorem scIsTree : FnScope ["_law_thing", "_law_part"] ["_law_thing"] (defScope sIsTree) := ⟨rfl, rfl, rfl, by decide +kernel, rfl, by decide +kernel, by decide +kernel⟩
theorem ok_istree {n : Nat} {f : Addr} {fd : FuncData} (F : Fun K "_law_is_tree" "_law_is_tree" sIsTree f fd) (bF : Binds K fd ["_law_thing"] []) (mF : mg "_law_is_tree" = some (.ref f))
    (G : FnOk P w K mg base CX0 n f fd ["_law_thing"] (spIsTree n)) (M : SameG mg) : FnOk P w K mg base CX0 (n + 1) f fd ["_law_thing"] (spIsTree (n + 1)) := by
  refine F.ok scIsTree (fun vs H Q E h => ?_) (fun cdv A outer s H vs Q E hr h => ?_)
  · obtain ⟨b, v, d, rfl, _⟩ := h
    rfl
  obtain ⟨b, v, d, rfl, D, ok, hd, q⟩ := h
  refine ⟨_, pss_cons (ps_if (pt_val (pe_callB (id := "isinstance") call_isi (by rfl) M.isi (by decide +kernel) (pa_cons (pv 0) (pa_cons (pe_bltn (v := .ty "int") (by rfl) M.int (by decide +kernel) rfl) pa_nil))))
      (pss_one (ps_ret (pe_and (pe_not (pe_callB (id := "isinstance") call_isi (by rfl) M.isi (by decide +kernel) (pa_cons (pv 0) (pa_cons (pe_bltn (v := .ty "bool") (by rfl) M.bool (by decide +kernel) rfl) pa_nil)))) (pe_one (pe_chain op_le op_le pe_int (pv 0) pe_int))))) pss_nil)
    (pss_cons (ps_if (PW.pt (pw_or (pt_not (pt_val (pe_callB (id := "isinstance") call_isi (by rfl) M.isi (by decide +kernel) (pa_cons (pv 0) (pa_cons (pe_bltn (v := .ty "tuple") (by rfl) M.tuple (by decide +kernel) rfl) pa_nil)))))
      (pw_or (pt_cmpR (op_eqD hr.units) (pv 0) (pe_tup pa_nil) (nomark _))
      (pw_or1 (pt_not (pt_val (pe_callB (id := "isinstance") call_isi (by rfl) M.isi (by decide +kernel) (pa_cons (pe_ix ix_tup (pv 0) pe_int (fun _ _ => rfl)) (pa_cons (pe_bltn (v := .ty "str") (by rfl) M.str (by decide +kernel) rfl) pa_nil)))))))))
      (pss_one (ps_ret pe_bl)) pss_nil)
    (pss_cons (ps_if (pt_cmpR op_notIn_seq (pe_ix ix_tup (pv 0) pe_int (fun _ _ => rfl)) (pe_tup (pa_cons pe_str (pa_cons pe_str (pa_cons pe_str pa_nil)))) (by rfl)) (pss_one (ps_ret pe_bl)) pss_nil)
    (pss_one (ps_ret (pe_and (pe_cmpR op_eq (pe_callB call_len_seq (by rfl) M.len PySem.boot_len (pa_cons (pv 0) pa_nil))
        (pe_dget (hu_of hr) (pe_disp (pps_cons pe_str pe_int (pps_cons pe_str pe_int (pps_cons pe_str pe_int pps_nil))) rfl rfl (by simp) (by decide)) (pe_ix ix_tup (pv 0) pe_int (fun _ _ => rfl)) (fun _ _ => rfl)) (nomark _))
      (pe_one (pe_callB (cr_all rfl) (by rfl) M.all (by decide +kernel) (pa_cons (pe_lc (own := [("_law_part", 1)]) (g := gName 1) (tt := tYes) (te := tCall (spIsTree n) [] E0 (tCons (tVar 1) tNil)) rfl scIsTree.nd
            (pi_tup (pe_slice sl_tup (pv 0) (po_some pe_int) po_none))
            (blkOk_by (N := ["_law_thing", "_law_part"]) (sc := defScope sIsTree) (by decide +kernel)) (fun _ _ _ _ _ => pg_name (i := 1) scIsTree.nd rfl (Or.inl rfl))
            (fun _ _ _ _ _ => pts_nil) (fun _ _ _ _ _ => pe_call G hr (by rfl) mF F.kp bF .nil pass0 (pa_cons (pv 1) pa_nil))) pa_nil)))))))), ?_⟩
  refine ⟨_, rfl, _, _, _, _, isI d, rfl, .ty "int", D.tyx, kitI d, isI d, rfl, ?_⟩
  have no_other : (∀ ds, d ≠ .tuple ds) → (∀ n, d ≠ .int n) → isI d = false → isU d = false → ∀ (H' : Hp), Same H H' → Q (.bl false) H' := fun h1 h2 _ _ H' s' =>
    q false H' ⟨(fun e => nomatch e), fun z => absurd z (isT_other (fun ⟨x, ds, e, _⟩ => h1 _ e) h2)⟩ s'
  cases d with
  | int i =>
    cases D.int_of
    refine iteT ?_
    refine ⟨_, rfl, _, _, _, _, false, rfl, .ty "bool", D.tyx, kitB' _, false, rfl, true, rfl, iteT ?_⟩
    refine ⟨_, rfl, _, _, rfl, rfl, decide (0 ≤ i), rfl, ?_⟩
    cases e : decide (0 ≤ i) with
    | false => exact iteF (q _ _ ⟨(fun e => nomatch e), fun z => by have := (isT_int.mp z).1; simp at e; omega⟩ (Same.refl H))
    | true => exact iteT ⟨_, _, rfl, rfl, q _ _ (by rw [isT_int]; simp at e ⊢; intro _; exact e) (Same.refl H)⟩
  | bool c =>
    refine iteT ?_
    refine ⟨_, rfl, _, _, _, _, true, rfl, .ty "bool", D.tyx, kitB' _, true, rfl, false, rfl, iteF ?_⟩
    exact q _ _ ⟨(fun e => nomatch e), fun z => absurd z (isT_other (fun ⟨x, ds, e, _⟩ => nomatch e) (fun _ e => nomatch e))⟩ (Same.refl H)
  | tuple ds =>
    obtain ⟨a, xs, rfl, ha, A'⟩ := D.tup_of
    refine iteF ?_
    refine ⟨_, rfl, _, _, _, _, true, rfl, .ty "tuple", D.tyx, kitU _, true, rfl, iteF ?_⟩
    refine ⟨_, rfl, (by show 0 ≤ sizeLine; decide), fun p hp => ?_⟩
    have s1 := same_new hp (.tup ([] : List V))
    refine ⟨.tuple ds, .tuple [], (D.same s1).dp, .tup (.inl (.inl upd_same)) .nil, shaped_of ok.1 (by have := ok.2; omega), by decide +kernel, ds.isEmpty, congrArg V.bl eqv_nil, ?_⟩
    cases xs with
    | nil =>
      have e0 : ds = [] := by have := A'.len; cases ds with | nil => rfl | cons => simp at this
      subst e0
      refine iteT (q false _ ⟨(fun e => nomatch e), fun z => absurd z (isT_other ?_ (fun _ e => nomatch e))⟩ s1)
      rintro ⟨x, ds', e, _⟩
      injection e with e
      cases e
    | cons x0 xr =>
      obtain ⟨d0, dr, rfl, D0, Dr⟩ := A'.head
      refine iteF ?_
      have ha1 := ha.same s1
      refine ⟨_, rfl, a, _, _, _, rfl, rfl, .inl ha1, at_of (j := 0) rfl rfl, _, _, _, _, isS d0, rfl, .ty "str", (D0.same s1).tyx, kitS d0, isS d0, rfl, ?_⟩
      have shaped_str : ∀ {x : Str}, d0 = .str x → ¬ (x = "0" ∨ x = "s" ∨ x = "f") → ¬ Shaped (.tuple (d0 :: dr)) := by
        rintro x rfl no ⟨x', ds', e, h⟩
        injection e with e
        injection e with e1 e2
        injection e1 with e1
        subst e1
        rcases h with ⟨h, _⟩ | ⟨h, _⟩ | ⟨h, _⟩
        · exact no (.inl h)
        · exact no (.inr (.inl h))
        · exact no (.inr (.inr h))
      have shaped_no : (∀ x, d0 ≠ .str x) → ¬ Shaped (.tuple (d0 :: dr)) := by
        rintro no ⟨x', ds', e, h⟩
        injection e with e
        injection e with e1 e2
        exact no _ e1
      cases d0 with
      | str x =>
        refine iteF ?_
        cases D0.str_of
        refine ⟨_, rfl, a, _, _, _, rfl, rfl, .inl ha1, at_of (j := 0) rfl rfl, (by show 3 ≤ sizeLine; decide), fun g hg => ?_⟩
        have s2 := same_new hg (.tup [V.str "0", .str "s", .str "f"])
        have s12 := s1.trans s2
        refine ⟨g, _, rfl, .inr (.inl (.inl upd_same)), rfl, rfl, _, rfl, ?_⟩
        rw [if_pos rfl, three_in]
        by_cases hx : x = "0" ∨ x = "s" ∨ x = "f"
        · rw [decide_eq_true hx]
          refine iteF ?_
          have ha2 := ha.same s12
          refine ⟨_, rfl, a, _, rfl, .inr (.inl ha2), fun p2 hp2 => ?_⟩
          refine ⟨upd_same, arity, rfl, by decide, ?_⟩
          rw [upd_upd]
          have s3 := same_new hp2 (.dK (mergeK [] arity))
          have ha3 := ha2.same s3
          obtain ⟨ar, har, hav⟩ : ∃ ar : Nat, valV (mergeK [] arity) (.inr x) = some (.int ar) ∧ ((x = "0" ∧ ar = 1) ∨ (x = "s" ∧ ar = 2) ∨ (x = "f" ∧ ar = 3)) := by
            rcases hx with rfl | rfl | rfl
            · exact ⟨1, arity_0, .inl ⟨rfl, rfl⟩⟩
            · exact ⟨2, arity_s, .inr (.inl ⟨rfl, rfl⟩)⟩
            · exact ⟨3, arity_f, .inr (.inr ⟨rfl, rfl⟩)⟩
          refine ⟨_, rfl, a, _, _, _, rfl, rfl, .inl ha3, at_of (j := 0) rfl rfl, p2, _, rfl, har ▸ DGet.k (k := .inr x) upd_same, ?_⟩
          have el := Dr.len
          have sh : (((V.str x :: xr).length : Nat) : Int) = (ar : Nat) ↔ ((x = "0" ∧ dr.length = 0) ∨ (x = "s" ∧ dr.length = 1) ∨ (x = "f" ∧ dr.length = 2)) := by
            have s0 : ("0" : Str) ≠ "s" := by decide +kernel
            have s1 : ("0" : Str) ≠ "f" := by decide +kernel
            have s2 : ("s" : Str) ≠ "f" := by decide +kernel
            rw [List.length_cons, el]
            rcases hav with ⟨rfl, rfl⟩ | ⟨rfl, rfl⟩ | ⟨rfl, rfl⟩
            · exact ⟨fun h => .inl ⟨rfl, by omega⟩, fun h => by rcases h with ⟨_, h⟩ | ⟨h, _⟩ | ⟨h, _⟩; (· omega); (· exact absurd h s0); (· exact absurd h s1)⟩
            · exact ⟨fun h => .inr (.inl ⟨rfl, by omega⟩), fun h => by rcases h with ⟨h, _⟩ | ⟨_, h⟩ | ⟨h, _⟩; (· exact absurd h.symm s0); (· omega); (· exact absurd h s2)⟩
            · exact ⟨fun h => .inr (.inr ⟨rfl, by omega⟩), fun h => by rcases h with ⟨h, _⟩ | ⟨h, _⟩ | ⟨_, h⟩; (· exact absurd h.symm s1); (· exact absurd h.symm s2); (· omega)⟩
          refine ⟨rfl, decide (V.int (((V.str x :: xr).length : Nat) : Int) = V.int (ar : Nat)), rfl, ?_⟩
          by_cases he : (((V.str x :: xr).length : Nat) : Int) = (ar : Nat)
          · have hs := sh.mp he
            rw [decide_eq_true (by rw [he])]
            refine iteT ?_
            refine ⟨_, rfl, 1, rfl, a, _, rfl, .inl ha3, cut_part _ _, fun p4 hp4 => ?_⟩
            rw [cut_tail]
            have s4 := same_new hp4 (.tup xr)
            have s14 := s12.trans (s3.trans s4)
            refine ⟨p4, rfl, ⟨_, .inl (.inl upd_same)⟩, fun D5 hD5 => lc_tup (K := K) (a := p4) (xs := xr) (fun i H2 => ∃ bs : List Bool, H2 D5 = some (.lst (bs.map V.bl)) ∧ bs.length = i ∧ (∀ (j : Nat) (r : Bool) (e : PyData), bs[j]? = some r → dr[j]? = some e → (r = true ↔ IsT e)) ∧
                Same _ H2) ⟨[], upd_same, rfl, fun j r e z => by simp at z, same_new hD5 _⟩ (fun i H2 _ ⟨_, _, _, _, s⟩ => .inl (.inl (s _ _ upd_same))) ?_ ?_⟩
            · rintro i x' H2 hi ⟨bs, h5, lb, each, s5⟩
              obtain ⟨e, he1, De⟩ := Dr.get hi
              have em : e ∈ dr := List.mem_of_getElem? he1
              have oke := ok.tup e (by simp [em])
              have depe : e.depth < n := by
                have h1 : PyData.depthAll (.str x :: dr) + 1 < n + 1 := hd
                have := depthAll_iff.mp (Nat.le_refl (PyData.depthAll (.str x :: dr))) e (by simp [em])
                omega
              have li : i < dr.length := (List.getElem?_eq_some_iff.mp he1).1
              have ld : dr.length ≤ 2 := by rcases hs with ⟨_, h⟩ | ⟨_, h⟩ | ⟨_, h⟩ <;> omega
              refine ⟨rfl, ?_⟩
              refine ⟨_, rfl, b, x', e, rfl, De.same (s14.trans s5), oke, depe, fun r H6 hr6 s6 => ?_⟩
              refine ⟨_, s6 _ _ h5, ?_, bs ++ [r], ?_, by rw [List.length_append, lb]; rfl, ?_, ?_⟩
              · rw [List.length_map]; exact Nat.lt_of_lt_of_le (by omega : bs.length < 1000) (by decide)
              · rw [upd_same, List.map_append]; rfl
              · intro j r' e' z1 z2
                rcases Nat.lt_or_ge j bs.length with lt | ge
                · rw [List.getElem?_append_left lt] at z1
                  exact each j r' e' z1 z2
                · rw [List.getElem?_append_right ge] at z1
                  obtain ⟨z3, z4⟩ := List.getElem?_eq_some_iff.mp z1
                  simp at z3
                  have ej : j = i := by omega
                  subst ej
                  rw [he1] at z2
                  cases z2
                  simp [lb] at z1
                  rw [← z1]
                  exact hr6
              · intro c o z
                have nD : c ≠ D5 := fun e => by subst e; rw [hD5] at z; cases z
                rw [upd_ne nD]
                exact s6 _ _ (s5 _ _ z)
            · rintro H2 ⟨bs, h5, lb, each, s5⟩
              refine ⟨D5, bs, rfl, .inl (.inl h5), q _ _ ?_ (s14.trans s5)⟩
              rw [isT_shaped hs, List.all_eq_true]
              have lbd : bs.length = dr.length := by rw [lb, el]
              constructor
              · intro h e he
                obtain ⟨j, lj, rfl⟩ := List.getElem_of_mem he
                exact (each j bs[j] dr[j] (List.getElem?_eq_getElem (by omega)) (List.getElem?_eq_getElem lj)).mp (h _ (List.getElem_mem _))
              · intro h r hr
                obtain ⟨j, lj, rfl⟩ := List.getElem_of_mem hr
                exact (each j bs[j] dr[j] (List.getElem?_eq_getElem lj) (List.getElem?_eq_getElem (by omega))).mpr (h _ (List.getElem_mem _))
          · rw [decide_eq_false (fun z => he (by injection z))]
            refine iteF (q false _ ⟨(fun e => nomatch e), fun z => absurd z (isT_other ?_ (fun _ e => nomatch e))⟩ (s12.trans s3))
            rintro ⟨x', ds', e, h⟩
            injection e with e
            injection e with e1 e2
            injection e1 with e1
            subst e1 e2
            exact he (sh.mpr h)
        · rw [decide_eq_false hx]
          exact iteT (q false _ ⟨(fun e => nomatch e), fun z => absurd z (isT_other (shaped_str rfl hx) (fun _ e => nomatch e))⟩ s12)
      | _ => exact iteT (q false _ ⟨(fun e => nomatch e), fun z => absurd z (isT_other (shaped_no (fun _ e => nomatch e)) (fun _ e => nomatch e))⟩ s1)
  | _ =>
    refine iteF ⟨_, rfl, _, _, _, _, false, rfl, .ty "tuple", D.tyx, kitU _, false, rfl, iteT ?_⟩
    exact no_other (fun _ e => nomatch e) (fun _ e => nomatch e) rfl rfl _ (Same.refl H)
theorem istree_ok {f : Addr} {fd : FuncData} (F : Fun K "_law_is_tree" "_law_is_tree" sIsTree f fd) (bF : Binds K fd ["_law_thing"] []) (mF : mg "_law_is_tree" = some (.ref f)) (M : SameG mg) :
    ∀ n : Nat, FnOk P w K mg base CX0 n f fd ["_law_thing"] (spIsTree n)
  | 0 => none_left fun vs H Q E h => by
    obtain ⟨b, v, d, _, _, _, h, _⟩ := h
    omega
  | n + 1 => ok_istree F bF mF (istree_ok F bF mF M n) M
end
end Rp

/-! xs[a:] = ys, ys another list: what the layer has no statement of. -/
namespace Rp
open PySem PySem.Spec PyProof.Rows L2
theorem tail_bounds {k n : Nat} (h : k ≤ n) : sliceBounds (some (k : Int)) none none n = ((k : Int), (n : Int), 1) := by
  simp only [sliceBounds, Option.getD_none, show ¬ ((k : Int) < 0) by omega, if_false, show (1 : Int) > 0 by decide, if_true]
  congr 1
  · omega
theorem tail_items (old fresh : List Value) (k : Nat) : old.toArray.extract 0 k ++ fresh.toArray ++ old.toArray.extract old.toArray.size old.toArray.size = (old.take k ++ fresh).toArray := by
  apply Array.toList_inj.mp
  simp
section
variable {prog : Program} {w : World} {A : Around} {E : Value → Shared → Prop} {s : Shared}
theorem store_tail {at_ src cut : Addr} {old fresh : Array Value} {n1 n2 : Nat} {vlo : Value} {k : Nat} {Q : Unit → Shared → Prop} (oe : s.heap.get? at_ = some { cls := .type "list", data := .seq old n1 })
    (fe : s.heap.get? src = some { cls := .type "list", data := .seq fresh n2 }) (apart : at_ ≠ src) (isCut : s.heap.IsSliceOf cut vlo .none .none) (pLo : IsPart vlo (some (k : Int))) (hk : k ≤ old.size) (room : old.size + fresh.size ≤ sizeLine)
    (go : Q () { s with heap := s.heap.update at_ (Obj.mapSeq fun xs => xs.extract 0 k ++ fresh ++ xs.extract old.size xs.size) }) : wpAny (model prog w) A (setItem (.ref at_) (.ref cut) (.ref src)) Q E s := by
  have lstIs : s.heap.IsList at_ old := PySem.IsL.isList oe
  have srcIs : s.heap.IsList src fresh := PySem.IsL.isList fe
  obtain ⟨oc, hoc, hcc, hdc⟩ := id isCut
  have cutIs : s.TypeIs (.ref cut) "slice" := ⟨oc, hoc, hcc⟩
  have noStep : ¬ ((rawPart none == rawInt 0) = true) := Bool.false_ne_true
  have other : Builtin.List.listSameRef (.ref at_) (.ref src) = false := by unfold Builtin.List.listSameRef; exact beq_eq_false_iff_ne.mpr apart
  have bound : ((fun xs : Array Value => xs.extract 0 k ++ fresh ++ xs.extract old.size xs.size) old).size ≤ sizeLine + 1 := by simp only [Array.size_append, Array.size_extract]; omega
  unfold setItem; try with_reducible refine wpAny_holding ?_
  first | refine wpAny_bind (wpAny_pure ?_) | skip
  refine wpAny_bind (wpAny_sequenceKey lstIs.typeIs (by decide) (wpAny_bind (wpAny_callSpecial?_slot (name := Str.ofString "__setitem__") lstIs.typeIs slot_list_setitem (wpAny_call_entry slot_list_setitem lstIs.typeIs entry_list_setitem ?_ (args_list_setitem _ _ _)))))
  show wpAny _ _ (Builtin.List.listSubscript? (.ref cut) >>= _) _ _ s
  refine wpAny_bind ?_; unfold Builtin.List.listSubscript?
  refine wpAny_bind (wpAny_specialOf cutIs slice_no_index ?_); simp only [Option.isNone_none, if_true]
  refine wpAny_pure ?_; show wpAny _ _ (typeOf (.ref cut) >>= _) _ _ s
  refine wpAny_bind (wpAny_typeOf cutIs ?_)
  first | rw [if_neg (by decide)] | refine PySem.W.KFB.if_not (by decide) ?_
  rw [listSliceParts_eq]; refine wpAny_bind (wpAny_bind (wpAny_field hoc hdc (x := .none) rfl (wpAny_bind (wpAny_listPart .none ?_))))
  rw [if_neg noStep]; refine wpAny_bind (wpAny_field hoc hdc (x := vlo) rfl (wpAny_bind (wpAny_listPart pLo ?_)))
  refine wpAny_bind (wpAny_field hoc hdc (x := .none) rfl (wpAny_bind (wpAny_listPart .none (wpAny_pure ?_))))
  first | simp only [other, Bool.false_eq_true, if_false] | refine PySem.W.KFB.if_not other ?_ | (dsimp only; rw [if_neg (by rw [other]; exact Bool.false_ne_true)])
  refine wpAny_bind (m := Builtin.List.listAllItems (.ref src) "must assign iterable to extended slice") ?_; unfold Builtin.List.listAllItems
  refine wpAny_bind (wpAny_typeOf srcIs.typeIs ?_)
  first | refine PySem.W.KFB.if_so (by decide) ?_ | rw [if_pos (by decide)] | simp only [beq_self_eq_true, Bool.true_or, if_true]
  unfold Builtin.List.listItems; refine wpAny_bind (wpAny_seqItems fe rfl (wpAny_pure ?_))
  refine wpAny_bind (wpAny_bind (wpAny_seqItems oe rfl (wpAny_pure ?_)))
  refine wpAny_bind (wpAny_of_eq ((sliceIndices_raw (some (k : Int)) none none old.size (by simp)).trans (congrArg (pure : Int × Int × Int → Sem (Int × Int × Int)) (tail_bounds hk))) ?_)
  show wpAny _ _ (if ((1 : Int) == 1) = true then _ else _) _ _ s; rw [if_pos (by decide)]
  refine wpAny_bind (wpAny_rule ?_); have small := notLongL room
  first | simp only [small, Bool.false_eq_true, if_false] | refine PySem.W.KFB.if_not small ?_
  first | refine wpAny_bind (wpAny_pure ?_) | skip
  show wpAny _ _ (updateSeq at_ (fun xs => xs.extract 0 ((k : Int)).toNat ++ fresh ++ xs.extract (max (k : Int) (old.size : Int)).toNat xs.size) >>= _) _ _ s
  rw [show (max (k : Int) (old.size : Int)).toNat = old.size by omega, Int.toNat_natCast]
  refine wpAny_bind (wpAny_updateSeq (hz := Nat.le_trans (Nat.le_add_right _ _) room) (_hz' := bound) oe rfl (wpAny_bind (wpAny_letGo ?_)))
  first | exact wpAny_bind (wpAny_pure (wpAny_pure ⟨.none, rfl, wpAny_pure go⟩)) | exact wpAny_pure ⟨.none, rfl, wpAny_pure go⟩
end
/-- xs[a:] = ys -/
def tTail (to : TE) (ta : TO) (tv : TE) : TS := fun D σ H => tv σ H fun y H1 => to σ H1 fun x H2 => ta σ H2 fun i H3 => ∃ (l b : Addr) (xs ys : List V) (k : Nat), y = .ref b ∧ x = .ref l ∧ i = some (k : Int) ∧ H3 l = some (.lst xs) ∧ H3 b = some (.lst ys) ∧ l ≠ b ∧ k ≤ xs.length ∧ xs.length + ys.length ≤ sizeLine ∧
  D.nx σ (upd H3 l (.lst (xs.take k ++ ys)))
section
variable {X : Cx} {o e value : Expr} {pos pos' p2 : Pos} {td tv : TE} {ta : TO}
theorem ps_tail (ho : PE X o td) (hi : PO X (some e) ta) (hv : PE X value tv) (hs : swapsWith value (some (.Subscript o (.Slice (some e) none none p2) pos')) pos.line X.env = pure false := by rfl) :
    PS X (.Assign [.Subscript o (.Slice (some e) none none p2) pos'] value pos) (tTail td ta tv) := by
  refine ⟨fun pins s σ H D I h => wpAny_Assign_Subscript (thn (hv.run pins s σ H _ I h) fun r s1 ⟨v, H1, I1, rv, q1⟩ => thn (ho.run pins s1 σ H1 _ I1 q1) fun u s2 ⟨x, H2, I2, rx, q2⟩ => ?_) hs⟩
  refine wpAny_Slice (thn (hi.run pins s2 σ H2 _ I2 q2) fun vl s3 ⟨i, H3, I3, pl, q3⟩ => ?_)
  obtain ⟨l, b, xs, ys, k, rfl, rfl, rfl, hl, hb, ne, hk, room, go⟩ := q3
  rw [evalPart_none]
  refine wpAny_pure (wpAny_pure ?_)
  cases rv
  cases rx
  have I4 : Inv X pins σ H3 { s3 with heap := s3.heap.push { cls := .type "slice", data := .fields #[vl, .none, .none] } } := I3.kept (t' := s3.toks) fun c ob w => Heap.get?_push_of_some _ w
  obtain ⟨_, old, n1, ro, lo, oe⟩ := I4.lstM hl
  obtain ⟨_, fresh, n2, rf, lf, fe⟩ := I4.lstM hb
  refine store_tail (k := k) oe fe ne (Heap.IsSliceOf.new ..) pl (by rw [List.size_toArray]; omega) (by rw [List.size_toArray, List.size_toArray]; omega) ?_
  refine ⟨σ, _, I4.lset (its' := old.take k ++ fresh) (t' := s3.toks) hl oe ?_ (Vals.append (ro.take _) rf) ?_, go⟩
  · exact tail_items old fresh k
  · rw [List.length_append, List.length_take]; omega
end
end Rp

set_option maxHeartbeats 8000000
/-! is_binding over data of any kind. -/
namespace Rp
open PySem PySem.Spec PyProof.Rows L2 TL RZ
/-- [.. for a, b in zip(xs, ys)], n turns -/
theorem lc_pairsN {J : It} {n : Nat} {xs ys : List V} {g : TG} {tt : TT} {te : TE} {vs : List Nat} {σ : L2.St} {H1 : Hp} {D : Addr} {Qd : Hp → Prop} (Pv : Nat → Hp → Prop)
    (stops : ∀ H, Pv n H → J.stop n H) (goes : ∀ i H, i < n → Pv i H → J.go i H)
    (gives : ∀ i H v H', i < n → Pv i H → J.yld i H v H' → ∃ T x y, v = .ref T ∧ xs[i]? = some x ∧ ys[i]? = some y ∧ H T = none ∧ H' = upd H T (.tup [x, y]))
    (h0 : Pv 0 (upd H1 D (.lst [])))
    (hs : ∀ (i : Nat) (x y : V) (T : Addr) (H : Hp), i < n → xs[i]? = some x → ys[i]? = some y → Pv i H → H T = none → g (.ref T) (wipe σ vs) (upd H T (.tup [x, y])) fun σ2 H2 => wipe σ2 vs = wipe σ vs ∧
      tt σ2 H2 fun b H3 => if b = true then te σ2 H3 fun y H4 => ∃ acc, H4 D = some (.lst acc) ∧ acc.length < sizeLine ∧ Pv (i + 1) (upd H4 D (.lst (acc ++ [y]))) else Pv (i + 1) H3)
    (hd : ∀ H, Pv n H → Qd H) :
    ∃ W : Nat → Nat → Hp → Prop, (∃ m, W 0 m (upd H1 D (.lst []))) ∧ ∀ i m H, W i m H → (J.stop i H ∧ Qd H) ∨
      (J.go i H ∧ ∃ Nx : Hp → Prop, (∀ H', Nx H' → ∃ m', m' < m ∧ W (i + 1) m' H') ∧ ∀ x H', J.yld i H x H' → g x (wipe σ vs) H' fun σ2 H2 => wipe σ2 vs = wipe σ vs ∧
        tt σ2 H2 fun b H3 => if b = true then te σ2 H3 fun y H4 => ∃ acc, H4 D = some (.lst acc) ∧ acc.length < sizeLine ∧ Nx (upd H4 D (.lst (acc ++ [y]))) else Nx H3) := by
  refine ⟨fun i m H => m + i = n ∧ Pv i H, ⟨n, by simp, h0⟩, ?_⟩
  rintro i m H ⟨em, p⟩
  rcases Nat.lt_or_ge i n with lt | ge
  · refine .inr ⟨goes i H lt p, Pv (i + 1), fun H' p' => ⟨m - 1, by omega, by omega, p'⟩, fun v H' y => ?_⟩
    obtain ⟨T, x, y', rfl, hx, hy, hT, rfl⟩ := gives i H v H' lt p y
    exact hs i x y' T H lt hx hy p hT
  · have e : i = n := by omega
    subst e
    exact .inl ⟨stops H p, hd H p⟩
def IsPr (d : PyData) : Prop := ∃ (n : Int) (e : PyData), d = .tuple [.int n, e] ∧ 0 ≤ n ∧ n ≤ 99 ∧ IsT e
def keyD : PyData → Int
  | .tuple (.int n :: _) => n
  | _ => 0
def adjB (ks : List Int) : Bool := (List.range (ks.length - 1)).all fun j => decide (ks.getD j 0 < ks.getD (j + 1) 0)
def IsBdD (d : PyData) : Prop := ∃ ds : List PyData, d = .tuple ds ∧ (∀ e ∈ ds, IsPr e) ∧ adjB (ds.map keyD) = true
def spIsPr : Sp := fun vs H Q _ => ∃ (b : Addr) (v : V) (d : PyData), vs = [v] ∧ DAt H b v d ∧ okD d ∧ nd d ≤ 1000 ∧ ∀ (r : Bool) (H' : Hp), (r = true ↔ IsPr d) → Same H H' → Q (.bl r) H'
def spIsBd : Sp := fun vs H Q _ => ∃ (b : Addr) (v : V) (d : PyData), vs = [v] ∧ DAt H b v d ∧ okD d ∧ nd d ≤ 1000 ∧ ∀ (r : Bool) (H' : Hp), (r = true ↔ IsBdD d) → Same H H' → Q (.bl r) H'
theorem nd_mem {ds : List PyData} {e : PyData} (h : e ∈ ds) : nd e ≤ nd (.tuple ds) := by
  have := ndAll_mem h
  simp only [nd]; omega
theorem isPr_two {ds : List PyData} (h : ds.length ≠ 2) : ¬ IsPr (.tuple ds) := fun ⟨n, e, z, _⟩ => by
  injection z with z
  subst z
  exact h rfl
theorem isVar_num {d : PyData} : isVar d = true ↔ ∃ n : Int, d = .int n ∧ 0 ≤ n ∧ n ≤ 99 := by
  cases d <;> simp [isVar]
section
variable {P : Program} {w : World} {K : PySem.W.Frag} {mg : Str → Option Value} {base : Heap}
theorem scIsPair : FnScope ["thing"] ["thing"] (defScope sIsPair) := ⟨rfl, rfl, rfl, by decide +kernel, rfl, by decide +kernel, by decide +kernel⟩
theorem ok_ispr {f fV fT : Addr} {fd dV dT : FuncData} (F : Fun K "_is_pair" "_is_pair" sIsPair f fd)
    (GV : FnOk P w K mg base CX0 2 fV dV ["thing"] spVariable) (kV : PySem.W.keepIn K (.ref fV) = true) (bV : Binds K dV ["thing"] []) (mV : mg "is_variable" = some (.ref fV))
    (GT : FnOk P w K mg base CX0 3 fT dT ["thing"] spTerm) (kT : PySem.W.keepIn K (.ref fT) = true) (bT : Binds K dT ["thing"] []) (mT : mg "is_term" = some (.ref fT)) (M : SameG mg) : FnOk P w K mg base CX0 4 f fd ["thing"] spIsPr := by
  refine F.ok scIsPair (fun vs H Q E h => ?_) (fun cdv A outer s H vs Q E hr h => ?_)
  · obtain ⟨b, v, d, rfl, _⟩ := h
    rfl
  obtain ⟨b, v, d, rfl, D, ok, sz, q⟩ := h
  have r2 : Room 2 _ := hr.mono (by decide)
  refine ⟨_, pss_one (ps_ret (pe_and (pe_callB (id := "isinstance") call_isi (by rfl) M.isi (by decide +kernel) (pa_cons (pv 0) (pa_cons (pe_bltn (v := .ty "tuple") (by rfl) M.tuple (by decide +kernel) rfl) pa_nil)))
    (pe_and (pe_cmpR op_eq (pe_callB call_len_seq (by rfl) M.len PySem.boot_len (pa_cons (pv 0) pa_nil)) pe_int (nomark _))
    (pe_and (pe_call GV r2 rfl mV kV bV .nil pass0 (pa_cons (pe_ix ix_tup (pv 0) pe_int (fun _ _ => rfl)) pa_nil))
    (pe_one (pe_call GT hr rfl mT kT bT .nil pass0 (pa_cons (pe_ix ix_tup (pv 0) pe_int (fun _ _ => rfl)) pa_nil))))))), ?_⟩
  have no : ¬ IsPr d → Q (.bl false) H := fun h => q false H ⟨(fun e => nomatch e), fun z => absurd z h⟩ (Same.refl H)
  refine ⟨_, rfl, _, _, _, _, isU d, rfl, .ty "tuple", D.tyx, kitU d, isU d, rfl, ?_⟩
  cases d with
  | tuple ds =>
    obtain ⟨a, xs, rfl, ha, A'⟩ := D.tup_of
    have el := A'.len
    refine iteT ?_
    refine ⟨_, rfl, a, _, rfl, .inr (.inl ha), rfl, decide (V.int ((xs.length : Nat) : Int) = V.int 2), rfl, ?_⟩
    by_cases h2 : xs.length = 2
    · rw [decide_eq_true (by rw [h2]; rfl)]
      refine iteT ?_
      match ds, xs, A', h2 with
      | [d0, d1], [x0, x1], A', _ =>
        obtain ⟨_, _, e, D0, A1⟩ := A'.head
        injection e with e1 e2
        subst e1 e2
        obtain ⟨_, _, e, D1, _⟩ := A1.head
        injection e with e1 e2
        subst e1
        refine ⟨_, rfl, a, _, _, _, rfl, rfl, .inl ha, at_of (j := 0) rfl rfl, b, x0, d0, rfl, D0, isVar d0, rfl, ?_⟩
        cases ev : isVar d0 with
        | false =>
          refine iteF (no fun ⟨n, e, z, n0, n9, _⟩ => ?_)
          injection z with z
          injection z with z1 z2
          rw [isVar_num.mpr ⟨n, z1, n0, n9⟩] at ev
          cases ev
        | true =>
          obtain ⟨n, rfl, n0, n9⟩ := isVar_num.mp ev
          refine iteT ⟨_, rfl, a, _, _, _, rfl, rfl, .inl ha, at_of (j := 1) rfl rfl, b, x1, d1, rfl, D1, ok.tup d1 (by simp), Nat.le_trans (nd_mem (by simp)) sz, fun r H1 hr1 s1 => q r H1 ?_ s1⟩
          rw [hr1]
          refine ⟨fun h => ⟨n, d1, rfl, n0, n9, h⟩, fun ⟨_, _, z, _, _, h⟩ => ?_⟩
          injection z with z
          injection z with _ z
          injection z with z _
          rw [z]; exact h
    · rw [decide_eq_false (fun z => h2 (by injection z with z; omega))]
      exact iteF (no (isPr_two (by omega)))
  | _ => exact iteF (no fun ⟨_, _, z, _⟩ => nomatch z)
end
end Rp

set_option maxHeartbeats 8000000
namespace Rp
open PySem PySem.Spec PyProof.Rows L2 TL RZ
def stepK (ks : List Int) (j : Nat) : Bool := decide (ks.getD j 0 < ks.getD (j + 1) 0)
theorem adj_all {ks : List Int} {n : Nat} (h : n = ks.length) : ((List.range (n - 1)).map (stepK ks)).all id = adjB ks := by
  subst h
  unfold adjB
  rw [List.all_map]
  rfl
theorem drop_one_len {xs : List V} : (xs.drop 1).length = xs.length - 1 := List.length_drop
/-- a pair among data -/
theorem pr_at {H : Hp} {b : Addr} {x : V} {e : PyData} (D : DAt H b x e) (h : IsPr e) : ∃ (p : Addr) (y : V), x = .ref p ∧ TupAt H p [.int (keyD e), y] := by
  obtain ⟨n, e1, rfl, _⟩ := h
  obtain ⟨a, xs, rfl, ha, A⟩ := D.tup_of
  obtain ⟨x0, r, rfl, D0, A1⟩ := A.cons_of
  obtain ⟨x1, r1, rfl, D1, A2⟩ := A1.cons_of
  obtain rfl := A2.nil_of
  cases D0.int_of
  exact ⟨a, x1, rfl, ha⟩
theorem cut_rest {xs : List V} : cutV xs (some 1) none = xs.drop 1 := by
  cases xs with
  | nil => rfl
  | cons x ks => rw [cut_tail]; rfl
theorem whole_nil {xs : List V} (hw : HT.sIx xs.length 0 (some 1) = 0 ∧ HT.sIx xs.length xs.length none = xs.length) : xs = [] := by
  have := hw.1
  rw [show (some 1 : Option Int) = some ((1 : Nat) : Int) from rfl, HT.sIx_nat] at this
  rcases xs with _ | ⟨x, r⟩
  · rfl
  · simp at this
section
variable {P : Program} {w : World} {K : PySem.W.Frag} {mg : Str → Option Value} {base : Heap}
def teLess : TE := tOp (rI0 fun i j => .bl (decide (i < j))) (tOp (rIxT K) (tVar 2) (tC (.int 0))) (tOp (rIxT K) (tVar 3) (tC (.int 0)))
abbrev NBi : List Str := ["thing", "pair", "left", "right"]
theorem scIsBi : FnScope NBi ["thing"] (defScope sIsBinding) := ⟨rfl, rfl, rfl, by decide +kernel, rfl, by decide +kernel, by decide +kernel⟩
/-- all([l[0] < r[0] for l, r in zip(t, t[1:])]), t a tuple of pairs in slot 0; l and r in slots 2 and 3 -/
def tAdj (K : PySem.W.Frag) : TE := tCB (rAll K) (tCons (tLc (iZipA K (tCons (tVar 0) (tCons (tSl (rSlA K) (tVar 0) (tPart (tC (.int 1))) tNoPart) tNil))) (gTup K 2 (gCons (gName 2) (gCons (gName 3) gNil))) tYes
  (tOp (rI0 fun i j => .bl (decide (i < j))) (tOp (rIxT K) (tVar 2) (tC (.int 0))) (tOp (rIxT K) (tVar 3) (tC (.int 0)))) [2, 3]) tNil)
theorem adj_ok {c1 c2 c3 : Option V} {a b : Addr} {xs : List V} {ds : List PyData} {H : Hp} {Kc : V → Hp → Prop}
    (ha : TupAt H a xs) (A : DAtAll H b xs ds) (pr : ∀ e ∈ ds, IsPr e) (few : xs.length ≤ 1000)
    (go : ∀ H', Same H H' → Kc (.bl (adjB (ds.map keyD))) H') : tAdj K [some (.ref a), c1, c2, c3] H Kc := by
  have len := A.len
  have big : (2000 : Nat) ≤ sizeLine := by decide
  refine ⟨_, rfl, _, rfl, 1, rfl, a, xs, rfl, .inl ha, fun hw => ?_, fun hw g hg => ?_⟩
  · have e0 := whole_nil hw
    subst e0
    have e1 : ds = [] := by cases ds with | nil => rfl | cons => simp at len
    subst e1
    refine ⟨a, a, [], [], rfl, .inr ⟨.inl ha, .inl ha, fun D2 hD2 => ?_⟩⟩
    refine lc_pairsN (J := ItzT K a a) (n := 0) (xs := []) (ys := []) (fun i H4 => i = 0 ∧ H4 D2 = some (.lst []) ∧ Same H H4)
      (fun H4 h => ⟨[], [], .inl (ha.same h.2.2), .inl (ha.same h.2.2), .inl (Nat.le_refl _)⟩) (fun i H4 lt => absurd lt (by omega)) (fun i H4 v H5 lt => absurd lt (by omega))
      ⟨rfl, upd_same, same_new hD2 _⟩ (fun i _ _ _ _ lt => absurd lt (by omega)) (fun H4 h => ⟨D2, [], rfl, .inl (.inl h.2.1), go _ h.2.2⟩)
  · rw [cut_rest]
    have s3 := same_new hg (.tup (xs.drop 1))
    have ha3 := ha.same s3
    have hg3 : TupAt (upd H g (.tup (xs.drop 1))) g (xs.drop 1) := .inl upd_same
    generalize upd H g (.tup (xs.drop 1)) = H3 at s3 ha3 hg3
    refine ⟨a, g, xs, xs.drop 1, rfl, .inr ⟨.inl ha3, .inl hg3, fun D2 hD2 => ?_⟩⟩
    refine lc_pairsN (J := ItzT K a g) (n := xs.length - 1) (xs := xs) (ys := xs.drop 1) (fun i H4 => H4 D2 = some (.lst (((List.range i).map (stepK (ds.map keyD))).map V.bl)) ∧ Same H3 H4)
      (fun H4 h => ⟨xs, xs.drop 1, .inl (ha3.same h.2), .inl (hg3.same h.2), .inr (by rw [List.length_drop]; exact Nat.le_refl _)⟩)
      (fun i H4 lt h => ⟨xs, xs.drop 1, xs[i]'(by omega), (xs.drop 1)[i]'(by rw [List.length_drop]; exact lt), .inl (ha3.same h.2), .inl (hg3.same h.2), List.getElem?_eq_getElem _, List.getElem?_eq_getElem _⟩)
      (fun i H4 v H5 lt h ⟨T, u, v', e1, hT, e2, f1, f2⟩ => ⟨T, u, v', e1, f1 xs (.inl (ha3.same h.2)), f2 (xs.drop 1) (.inl (hg3.same h.2)), hT, e2⟩)
      ⟨upd_same, same_new hD2 _⟩ (fun i u v T H4 lt hu hv h hT => ?_) (fun H4 h => ⟨D2, (List.range (xs.length - 1)).map (stepK (ds.map keyD)), rfl, .inl (.inl h.1), ?_⟩)
    · have sT := same_new hT (.tup [u, v])
      rw [List.getElem?_drop] at hv
      have sAll : Same H (upd H4 T (.tup [u, v])) := s3.trans (h.2.trans sT)
      obtain ⟨e, he, De⟩ := A.get hu
      obtain ⟨e', he', De'⟩ := A.get hv
      obtain ⟨p, y, rfl, hp⟩ := pr_at De (pr e (List.mem_of_getElem? he))
      obtain ⟨p', y', rfl, hp'⟩ := pr_at De' (pr e' (List.mem_of_getElem? he'))
      have k1 : (ds.map keyD).getD i 0 = keyD e := by rw [List.getD_eq_getElem?_getD, List.getElem?_map, he]; rfl
      have k2 : (ds.map keyD).getD (i + 1) 0 = keyD e' := by rw [List.getD_eq_getElem?_getD, List.getElem?_map, Nat.add_comm, he']; rfl
      refine ⟨T, _, rfl, .inl (.inl upd_same), rfl, _, _, rfl, _, _, rfl, rfl, rfl, ?_⟩
      refine ⟨_, rfl, p, _, _, _, rfl, rfl, .inl (hp.same sAll), at_of (j := 0) rfl rfl, _, rfl, p', _, _, _, rfl, rfl, .inl (hp'.same sAll), at_of (j := 0) rfl rfl, _, _, rfl, rfl, _, sT _ _ h.1, ?_, ?_, ?_⟩
      · rw [List.length_map, List.length_map, List.length_range]; omega
      · dsimp only
        rw [upd_same, List.range_succ, List.map_append, List.map_append]
        have : stepK (ds.map keyD) i = decide (keyD e < keyD e') := by unfold stepK; rw [k1, k2]
        simp only [List.map_cons, List.map_nil, this]
      · intro c o z
        rw [upd_ne (ne_of_none z hD2)]
        exact sT _ _ (h.2 _ _ z)
    · rw [adj_all (by rw [List.length_map, len])]
      exact go H4 (s3.trans h.2)
end
end Rp

set_option maxHeartbeats 8000000
/-! is_binding; the law's own look at BINDINGs. -/
namespace Rp
open PySem PySem.Spec PyProof.Rows L2 TL RZ
theorem ndAll_le {ds : List PyData} : ds.length ≤ nd (.tuple ds) := by have := ndAll_len ds; simp only [nd]; omega
theorem isBd_no {d : PyData} (h : ∀ ds, d ≠ .tuple ds) : ¬ IsBdD d := fun ⟨ds, e, _⟩ => h ds e
theorem isBd_tup {ds : List PyData} : IsBdD (.tuple ds) ↔ (∀ e ∈ ds, IsPr e) ∧ adjB (ds.map keyD) = true := ⟨fun ⟨es, e, h⟩ => by injection e with e; subst e; exact h, fun h => ⟨ds, rfl, h⟩⟩
section
variable {P : Program} {w : World} {K : PySem.W.Frag} {mg : Str → Option Value} {base : Heap}
theorem ok_isbd {f fP : Addr} {fd dP : FuncData} (F : Fun K "is_binding" "is_binding" sIsBinding f fd)
    (GP : FnOk P w K mg base CX0 4 fP dP ["thing"] spIsPr) (kP : PySem.W.keepIn K (.ref fP) = true) (bP : Binds K dP ["thing"] []) (mP : mg "_is_pair" = some (.ref fP)) (M : SameG mg) : FnOk P w K mg base CX0 5 f fd ["thing"] spIsBd := by
  refine F.ok scIsBi (fun vs H Q E h => ?_) (fun cdv A outer s H vs Q E hr h => ?_)
  · obtain ⟨b, v, d, rfl, _⟩ := h
    rfl
  obtain ⟨b, v, d, rfl, D, ok, sz, q⟩ := h
  refine ⟨_, (pss_cons (ps_if (PW.pt (pw_or (pt_not (pt_val (pe_callB (id := "isinstance") call_isi (by rfl) M.isi (by decide +kernel) (pa_cons (pv 0) (pa_cons (pe_bltn (v := .ty "tuple") (by rfl) M.tuple (by decide +kernel) rfl) pa_nil))))) (pw_or1 (pt_not (pt_val (pe_callB (cr_all rfl) (by rfl) M.all (by decide +kernel) (pa_cons (pe_lc (own := [("pair", 1)]) (g := gName 1) (tt := tYes) (te := tCall spIsPr [] E0 (tCons (tVar 1) tNil)) rfl scIsBi.nd (pi_tup (pv 0)) (blkOk_by (N := NBi) (sc := defScope sIsBinding) (by decide +kernel)) (fun _ _ _ _ _ => (pg_name (i := 1) scIsBi.nd rfl (Or.inl rfl))) (fun _ _ _ _ _ => pts_nil) (fun _ _ _ _ _ => (pe_call GP hr (by rfl) mP kP bP .nil pass0 (pa_cons (pv 1) pa_nil)))) pa_nil))))))) (pss_one (ps_ret pe_bl)) pss_nil)
    (pss_one (ps_ret (pe_callB (cr_all rfl) (by rfl) M.all (by decide +kernel) (pa_cons (pe_lc (own := [("left", 2), ("right", 3)]) (g := gTup K 2 (gCons (gName 2) (gCons (gName 3) gNil))) (tt := tYes) (te := tOp (rI0 fun i j => .bl (decide (i < j))) (tOp (rIxT K) (tVar 2) (tC (.int 0))) (tOp (rIxT K) (tVar 3) (tC (.int 0)))) rfl scIsBi.nd (pi_zipA (by rfl) M.zip (pa_cons (pv 0) (pa_cons (pe_slice sl_tupA (pv 0) (po_some pe_int) po_none) pa_nil))) (blkOk_by (N := NBi) (sc := defScope sIsBinding) (by decide +kernel)) (fun _ _ _ _ _ => (pg_tup (by rfl) (pgs_cons (pg_name (i := 2) scIsBi.nd rfl (Or.inl rfl)) (pgs_cons (pg_name (i := 3) scIsBi.nd rfl (Or.inl rfl)) pgs_nil)))) (fun _ _ _ _ _ => pts_nil) (fun _ _ _ _ _ => (pe_cmpR op_lt (pe_ix ix_tup (pv 2) pe_int (fun _ _ => rfl)) (pe_ix ix_tup (pv 3) pe_int (fun _ _ => rfl)) (nomark _)))) pa_nil))))), ?_⟩
  have big : (2000 : Nat) ≤ sizeLine := by decide
  refine ⟨_, rfl, _, _, _, _, isU d, rfl, .ty "tuple", D.tyx, kitU d, isU d, rfl, ?_⟩
  cases d with
  | tuple ds =>
    obtain ⟨a, xs, rfl, ha, A'⟩ := D.tup_of
    have el := A'.len
    have few : ds.length ≤ 1000 := Nat.le_trans ndAll_le sz
    refine iteF ?_
    refine ⟨_, rfl, a, rfl, ⟨_, .inl ha⟩, fun D1 hD => lc_tup (K := K) (a := a) (xs := xs) (fun i H2 => ∃ bs : List Bool, H2 D1 = some (.lst (bs.map V.bl)) ∧ bs.length = i ∧ (∀ (j : Nat) (r : Bool) (e : PyData), bs[j]? = some r → ds[j]? = some e → (r = true ↔ IsPr e)) ∧ Same H H2)
      ⟨[], upd_same, rfl, fun j r e z => by simp at z, same_new hD _⟩ (fun i H2 _ ⟨_, _, _, _, s⟩ => .inl (ha.same s)) ?_ ?_⟩
    · rintro i x H2 hi ⟨bs, h2, lb, each, s2⟩
      obtain ⟨e, he, De⟩ := A'.get hi
      have em := List.mem_of_getElem? he
      have li : i < ds.length := (List.getElem?_eq_some_iff.mp he).1
      refine ⟨rfl, ?_⟩
      refine ⟨_, rfl, b, x, e, rfl, De.same s2, ok.tup e em, Nat.le_trans (nd_mem em) sz, fun r H3 hr3 s3 => ?_⟩
      refine ⟨_, s3 _ _ h2, by rw [List.length_map]; omega, bs ++ [r], by rw [upd_same, List.map_append]; rfl, by rw [List.length_append, lb]; rfl, fun j r' e' h1 h3 => ?_, fun c o z => by rw [upd_ne (ne_of_none z hD)]; exact s3 _ _ (s2 _ _ z)⟩
      rcases Nat.lt_or_ge j bs.length with h | h
      · rw [List.getElem?_append_left h] at h1; exact each j r' e' h1 h3
      · rw [List.getElem?_append_right h] at h1
        have jl : j = i := by
          have := (List.getElem?_eq_some_iff.mp h1).1
          simp at this; omega
        subst jl
        rw [lb, Nat.sub_self] at h1
        simp at h1
        rw [he] at h3
        cases h3
        rw [← h1]; exact hr3
    · rintro H2 ⟨bs, h2, lb, each, s2⟩
      have alls : bs.all id = true ↔ ∀ e ∈ ds, IsPr e := by
        rw [List.all_eq_true]
        constructor
        · intro h e he
          obtain ⟨j, hj⟩ := List.mem_iff_getElem?.mp he
          have lj : j < bs.length := by have := (List.getElem?_eq_some_iff.mp hj).1; omega
          exact (each j bs[j] e (List.getElem?_eq_getElem lj) hj).mp (h _ (List.getElem_mem lj))
        · intro h r hr
          obtain ⟨j, hj⟩ := List.mem_iff_getElem?.mp hr
          have lj : j < ds.length := by have := (List.getElem?_eq_some_iff.mp hj).1; omega
          exact (each j r ds[j] hj (List.getElem?_eq_getElem lj)).mpr (h _ (List.getElem_mem lj))
      refine ⟨D1, bs, rfl, .inl (.inl h2), bs.all id, rfl, ?_⟩
      cases hb : bs.all id with
      | false =>
        refine iteT (q false H2 ⟨(fun e => nomatch e), fun z => ?_⟩ s2)
        have := alls.mpr (isBd_tup.mp z).1
        rw [hb] at this; cases this
      | true =>
        have pr := alls.mp hb
        refine iteF ?_
        refine adj_ok (ha.same s2) (A'.same s2) pr (by omega) fun H3 s3 => q _ H3 ?_ (s2.trans s3)
        rw [isBd_tup]
        exact ⟨fun h => ⟨pr, h⟩, fun h => h.2⟩
  | _ => exact iteT (q false H ⟨(fun e => nomatch e), fun z => absurd z (isBd_no (fun ds e => nomatch e))⟩ (Same.refl H))
abbrev NPs : List Str := ["_law_thing", "_law_pair", "_law_one", "_law_other"]
theorem scIsPs : FnScope NPs ["_law_thing"] (defScope sIsPairs) := ⟨rfl, rfl, rfl, by decide +kernel, rfl, by decide +kernel, by decide +kernel⟩
def spIsPs : Sp := fun vs H Q _ => ∃ (b : Addr) (v : V) (d : PyData), vs = [v] ∧ DAt H b v d ∧ okD d ∧ nd d ≤ 1000 ∧ ∀ (r : Bool) (H' : Hp), (r = true ↔ IsBdD d) → Same H H' → Q (.bl r) H'
theorem ok_isps {f fI : Addr} {fd dI : FuncData} (F : Fun K "_law_is_pairs" "_law_is_pairs" sIsPairs f fd)
    (GI : FnOk P w K mg base CX0 61 fI dI ["_law_thing"] (spIsTree 61)) (kI : PySem.W.keepIn K (.ref fI) = true) (bI : Binds K dI ["_law_thing"] []) (mI : mg "_law_is_tree" = some (.ref fI)) (M : SameG mg) : FnOk P w K mg base CX0 62 f fd ["_law_thing"] spIsPs := by
  refine F.ok scIsPs (fun vs H Q E h => ?_) (fun cdv A outer s H vs Q E hr h => ?_)
  · obtain ⟨b, v, d, rfl, _⟩ := h
    rfl
  obtain ⟨b, v, d, rfl, D, ok, sz, q⟩ := h
  refine ⟨_, (pss_cons (ps_if (pt_not (pt_val (pe_callB (id := "isinstance") call_isi (by rfl) M.isi (by decide +kernel) (pa_cons (pv 0) (pa_cons (pe_bltn (v := .ty "tuple") (by rfl) M.tuple (by decide +kernel) rfl) pa_nil))))) (pss_one (ps_ret pe_bl)) pss_nil)
    (pss_cons (ps_for PassesOwn.never rfl (pi_tup (pv 0)) (pg_name (i := 1) scIsPs.nd rfl (Or.inl rfl))
      (pss_cons (ps_if (PW.pt (pw_or (pt_not (pt_val (pe_callB (id := "isinstance") call_isi (by rfl) M.isi (by decide +kernel) (pa_cons (pv 1) (pa_cons (pe_bltn (v := .ty "tuple") (by rfl) M.tuple (by decide +kernel) rfl) pa_nil))))) (pw_or (pt_cmpR op_ne (pe_callB call_len_seq (by rfl) M.len PySem.boot_len (pa_cons (pv 1) pa_nil)) pe_int (nomark _)) (pw_or1 (pt_not (pt_val (pe_callB (id := "isinstance") call_isi (by rfl) M.isi (by decide +kernel) (pa_cons (pe_ix ix_tup (pv 1) pe_int (fun _ _ => rfl)) (pa_cons (pe_bltn (v := .ty "int") (by rfl) M.int (by decide +kernel) rfl) pa_nil))))))))) (pss_one (ps_ret pe_bl)) pss_nil)
    (pss_one (ps_if (PW.pt (pw_or (pt_not (pt_val (pe_call GI hr (by rfl) mI kI bI .nil pass0 (pa_cons (pe_ix ix_tup (pv 1) pe_int (fun _ _ => rfl)) pa_nil)))) (pw_or1 (pt_not (pt_val (pe_call GI hr (by rfl) mI kI bI .nil pass0 (pa_cons (pe_ix ix_tup (pv 1) pe_int (fun _ _ => rfl)) pa_nil))))))) (pss_one (ps_ret pe_bl)) pss_nil))))
    (pss_one (ps_ret (pe_callB (cr_all rfl) (by rfl) M.all (by decide +kernel) (pa_cons (pe_lc (own := [("_law_one", 2), ("_law_other", 3)]) (g := gTup K 2 (gCons (gName 2) (gCons (gName 3) gNil))) (tt := tYes) (te := tOp (rI0 fun i j => .bl (decide (i < j))) (tOp (rIxT K) (tVar 2) (tC (.int 0))) (tOp (rIxT K) (tVar 3) (tC (.int 0)))) rfl scIsPs.nd (pi_zipA (by rfl) M.zip (pa_cons (pv 0) (pa_cons (pe_slice sl_tupA (pv 0) (po_some pe_int) po_none) pa_nil))) (blkOk_by (N := NPs) (sc := defScope sIsPairs) (by decide +kernel)) (fun _ _ _ _ _ => (pg_tup (by rfl) (pgs_cons (pg_name (i := 2) scIsPs.nd rfl (Or.inl rfl)) (pgs_cons (pg_name (i := 3) scIsPs.nd rfl (Or.inl rfl)) pgs_nil)))) (fun _ _ _ _ _ => pts_nil) (fun _ _ _ _ _ => (pe_cmpR op_lt (pe_ix ix_tup (pv 2) pe_int (fun _ _ => rfl)) (pe_ix ix_tup (pv 3) pe_int (fun _ _ => rfl)) (nomark _)))) pa_nil)))))), ?_⟩
  refine ⟨_, rfl, _, _, _, _, isU d, rfl, .ty "tuple", D.tyx, kitU d, isU d, rfl, ?_⟩
  cases d with
  | tuple ds =>
    obtain ⟨a, xs, rfl, ha, A'⟩ := D.tup_of
    have el := A'.len
    have few : ds.length ≤ 1000 := Nat.le_trans ndAll_le sz
    refine iteF ?_
    refine ⟨_, rfl, a, rfl, ⟨_, .inl ha⟩, for_tup (K := K) (a := a) (xs := xs) (fun i σ H2 => ∃ c1 : Option V, σ = [some (.ref a), c1, none, none] ∧ (∀ e ∈ ds.take i, IsPr e) ∧ Same H H2)
      ⟨_, rfl, by simp, Same.refl H⟩ (fun i σ H2 _ ⟨_, _, _, s⟩ => .inl (ha.same s)) ?_ ?_⟩
    · rintro i x σ H2 hi ⟨c1, rfl, prs, s2⟩
      obtain ⟨e, he, De⟩ := A'.get hi
      have em := List.mem_of_getElem? he
      have De := De.same s2
      have oke := ok.tup e em
      have no : ∀ {H3 : Hp}, ¬ IsPr e → Same H H3 → Q (.bl false) H3 := fun h s => q false _ ⟨(fun e => nomatch e), fun z => absurd ((isBd_tup.mp z).1 e em) h⟩ s
      have tk : ds.take (i + 1) = ds.take i ++ [e] := by rw [List.take_add_one, he]; rfl
      refine ⟨_, rfl, _, _, _, _, isU e, rfl, .ty "tuple", De.tyx, kitU e, isU e, rfl, ?_⟩
      cases e with
      | tuple es =>
        obtain ⟨p, ys, rfl, hp, Ae⟩ := De.tup_of
        have yl := Ae.len
        refine iteF ?_
        refine ⟨_, rfl, p, _, rfl, .inr (.inl hp), rfl, !decide (V.int ((ys.length : Nat) : Int) = V.int 2), rfl, ?_⟩
        by_cases h2 : ys.length = 2
        · rw [decide_eq_true (by rw [h2]; rfl)]
          refine iteF ?_
          match es, ys, Ae, h2 with
          | [d0, d1], [y0, y1], Ae, _ =>
            obtain ⟨_, _, e', D0, A1⟩ := Ae.head
            injection e' with e1 e2
            subst e1 e2
            obtain ⟨_, _, e', D1, _⟩ := A1.head
            injection e' with e1 e2
            subst e1
            have ok0 := oke.tup d0 (by simp)
            have ok1 := oke.tup d1 (by simp)
            refine ⟨_, rfl, p, _, _, _, rfl, rfl, .inl hp, at_of (j := 0) rfl rfl, _, _, _, _, isI d0, rfl, .ty "int", D0.tyx, kitI d0, isI d0, rfl, ?_⟩
            cases hI : isI d0 with
            | false =>
              refine iteT (no (fun ⟨n, z, h, _⟩ => ?_) s2)
              injection h with h
              injection h with h _
              rw [h] at hI; cases hI
            | true =>
              refine iteF ?_
              refine ⟨_, rfl, p, _, _, _, rfl, rfl, .inl hp, at_of (j := 0) rfl rfl, b, y0, d0, rfl, D0, ok0, by have := ok0.2; omega, fun r0 H3 hr0 s3 => ⟨r0, rfl, ?_⟩⟩
              cases r0 with
              | false =>
                refine iteT (no (fun ⟨n, z, h, n0, n9, _⟩ => ?_) (s2.trans s3))
                injection h with h
                injection h with h _
                have : IsT d0 := by rw [h, isT_int]; exact ⟨n0, n9⟩
                have := hr0.mpr this
                cases this
              | true =>
                have t0 := hr0.mp rfl
                obtain ⟨n, rfl⟩ : ∃ n, d0 = .int n := by
                  cases d0 with
                  | int n => exact ⟨n, rfl⟩
                  | bool c => exact absurd t0 (isT_other (fun ⟨x, ds, e, _⟩ => nomatch e) (fun _ e => nomatch e))
                  | _ => cases hI
                have n09 := isT_int.mp t0
                refine iteF ⟨_, rfl, p, _, _, _, rfl, rfl, .inl (hp.same s3), at_of (j := 1) rfl rfl, b, y1, d1, rfl, D1.same s3, ok1, by have := ok1.2; omega, fun r1 H4 hr1 s4 => ⟨r1, rfl, ?_⟩⟩
                cases r1 with
                | false =>
                  refine iteT (no (fun ⟨n, z, h, _, _, h5⟩ => ?_) ((s2.trans s3).trans s4))
                  injection h with h
                  injection h with _ h
                  injection h with h _
                  have := hr1.mpr (h ▸ h5)
                  cases this
                | true =>
                  refine iteF ⟨_, rfl, fun e' he' => ?_, (s2.trans s3).trans s4⟩
                  rw [tk] at he'
                  rcases List.mem_append.mp he' with z | z
                  · exact prs e' z
                  · rw [List.mem_singleton.mp z]; exact ⟨n, d1, rfl, n09.1, n09.2, hr1.mp rfl⟩
        · rw [decide_eq_false (fun z => h2 (by injection z with z; omega))]
          exact iteT (no (isPr_two (by omega)) s2)
      | _ => exact iteT (no (fun ⟨_, _, z, _⟩ => nomatch z) s2)
    · rintro σ H2 ⟨c1, rfl, prs, s2⟩
      rw [el, List.take_length] at prs
      refine adj_ok (ha.same s2) (A'.same s2) prs (by omega) fun H3 s3 => q _ H3 ?_ (s2.trans s3)
      rw [isBd_tup]
      exact ⟨fun h => ⟨prs, h⟩, fun h => h.2⟩
  | _ => exact iteT (q false H ⟨(fun e => nomatch e), fun z => absurd z (isBd_no (fun ds e => nomatch e))⟩ (Same.refl H))
end
end Rp

/-! What k10 takes over: small TERMs, the stack, NAMEs. -/
namespace Rp
open PySem PySem.Spec PyProof.Rows L2 TL
namespace Tm
def small (t : Tm) : Prop := ∀ n ∈ t.nums, 0 ≤ n ∧ n ≤ 99
end Tm
theorem slen (a b : Str) : (a ++ b).length = a.length + b.length := Str.length_append a b
theorem join1 (a x : Str) : Txt.join a [x] = x := by rw [TL.join_eq]; simp [Str.join]
def runs : List Tm → List Tm → List Tm → Prop
  | S, [], S' => S = S'
  | S, k :: r, S' => ∃ S0, S = S0 ++ k.kids ∧ runs (S0 ++ [k]) r S'
theorem runs_post : ∀ (t : Tm) (S r S' : List Tm), runs (S ++ [t]) r S' → runs S (t.rpost.reverse ++ r) S'
  | .v n, S, r, S', h => by simp only [Tm.rpost, List.reverse_singleton, List.singleton_append]; exact ⟨S, by simp [Tm.kids], h⟩
  | .z, S, r, S', h => by simp only [Tm.rpost, List.reverse_singleton, List.singleton_append]; exact ⟨S, by simp [Tm.kids], h⟩
  | .s t, S, r, S', h => by
    simp only [Tm.rpost, List.reverse_cons, List.append_assoc, List.singleton_append]
    exact runs_post t S _ _ ⟨S, by simp [Tm.kids], h⟩
  | .f l r', S, r, S', h => by
    simp only [Tm.rpost, List.reverse_cons, List.reverse_append, List.append_assoc, List.singleton_append]
    refine runs_post l S _ _ (runs_post r' (S ++ [l]) _ _ ⟨S, by simp [Tm.kids], h⟩)
theorem part_of : ∀ {t k : Tm}, k ∈ t.rpost → k.size ≤ t.size ∧ ∀ n ∈ k.nums, n ∈ t.nums
  | .v n, k, h => by simp [Tm.rpost] at h; subst h; exact ⟨Nat.le_refl _, fun n h => h⟩
  | .z, k, h => by simp [Tm.rpost] at h; subst h; exact ⟨Nat.le_refl _, fun n h => h⟩
  | .s t, k, h => by
    simp [Tm.rpost] at h
    rcases h with rfl | h
    · exact ⟨Nat.le_refl _, fun n h => h⟩
    · have := part_of h
      exact ⟨by simp only [Tm.size]; omega, this.2⟩
  | .f l r, k, h => by
    simp [Tm.rpost] at h
    rcases h with rfl | h | h
    · exact ⟨Nat.le_refl _, fun n h => h⟩
    · have := part_of h
      exact ⟨by simp only [Tm.size]; omega, fun n hn => List.mem_append.mpr (.inr (this.2 n hn))⟩
    · have := part_of h
      exact ⟨by simp only [Tm.size]; omega, fun n hn => List.mem_append.mpr (.inl (this.2 n hn))⟩
theorem drop_min {α : Type} (xs : List α) (i : Nat) : xs.drop (min i xs.length) = xs.drop i := by
  rcases Nat.le_total i xs.length with h | h
  · rw [Nat.min_eq_left h]
  · rw [Nat.min_eq_right h, List.drop_length, List.drop_of_length_le h]
theorem cut_from {xs : List V} {i : Nat} {a : Int} (h : a = (i : Nat)) : cutV xs (some a) none = xs.drop i := by
  subst h
  unfold cutV
  rw [HT.sIx_none, HT.sIx_nat, drop_min]
  refine List.take_of_length_le ?_
  rw [List.length_drop]
  omega
def letters : Str := "abcdefghijklmnopqrstuvwxyz"
structure NameOk (x : Str) : Prop where
  pos : 1 ≤ x.length
  few : x.length ≤ 6
  low : ∀ c ∈ tl x, 97 ≤ c ∧ c ≤ 122
  nif : x ≠ "if"
theorem in_letters {c : Nat} (h : 97 ≤ c ∧ c ≤ 122) : c ∈ letters.cps.toList := by
  have all : ∀ k : Fin 26, k.val + 97 ∈ letters.cps.toList := by decide +kernel
  have := all ⟨c - 97, by omega⟩
  rwa [show c - 97 + 97 = c by omega] at this
end Rp

/-! Tuples that are known to be plain (they bear no dict of their own), made by tuple(list) and by a display; dict(t) of such a tuple of pairs. -/
namespace Rp
open PySem PySem.Spec PyProof.Rows L2
/-- a plain tuple stands at a -/
def PlT (H : Hp) (a : Addr) (xs : List V) : Prop := ∃ o : Obj, o.dict = none ∧ H a = some (.frz o (.tup xs))
theorem PlT.sq {K : PySem.W.Frag} {H : Hp} {a : Addr} {xs : List V} (h : PlT H a xs) : SqT K H a xs := let ⟨o, _, e⟩ := h; .inl (.inr ⟨o, e⟩)
theorem PlT.same {H H' : Hp} {a : Addr} {xs : List V} (e : Same H H') (h : PlT H a xs) : PlT H' a xs := let ⟨o, d, q⟩ := h; ⟨o, d, e _ _ q⟩
theorem PlT.mono {H H' : Hp} {a : Addr} {xs : List V} (e : ∀ o, H a = some (.frz o (.tup xs)) → H' a = some (.frz o (.tup xs))) (h : PlT H a xs) : PlT H' a xs := let ⟨o, d, q⟩ := h; ⟨o, d, e _ q⟩
section
variable {X : Cx}
def rTupF (K : PySem.W.Frag) : List V → Hp → VK → Prop := fun vs H Q => ∃ (p : Addr) (ys : List V), vs = [.ref p] ∧ SqL K H p ys ∧ ∀ (l : Addr) (o : Obj), o.dict = none → H l = none → Q (.ref l) (upd H l (.frz o (.tup ys)))
theorem cr_tupF : CallR X (.type "tuple") (rTupF X.K) := by
  intro pins s σ H vs us Q I r h
  obtain ⟨p, ys, rfl, hq, q⟩ := h
  rw [Vals.ref1 r]
  obtain ⟨its, rv, pl, hz⟩ := I.list hq
  have few := rv.length
  refine call_tuple_list pl.isList (fun g old => ?_) (by simp only [List.size_toArray] <;> omega)
  have J : Inv X pins σ H { s with heap := g } := I.kept (t' := s.toks) old
  have there : (g.push { cls := .type "tuple", data := .seq its.toArray }).get? g.objs.size = some { cls := .type "tuple", data := .seq its.toArray } := Heap.get?_push_size _ rfl
  exact ⟨.ref g.objs.size, _, J.laid (t' := s.toks) (o := .frz { cls := .type "tuple", data := .seq its.toArray } (.tup ys)) (fun b o e => Heap.get?_push_of_some _ e) (Nat.le_refl _) ⟨there, hz, its, rv, IsTup.new _ _⟩, rfl,
    q _ _ rfl (J.hok.fresh (Nat.le_refl _))⟩
/-- (e, ..), told to be plain -/
def tTupF (t : TA) : TE := fun σ H Q => t σ H fun xs H1 => xs.length ≤ sizeLine ∧ ∀ (p : Addr) (o : Obj), o.dict = none → H1 p = none → Q (.ref p) (upd H1 p (.frz o (.tup xs)))
theorem pe_tupF {es : List Expr} {t : TA} {x1 : Nat} {pos : Pos} (h : PA X es t) : PE X (.Tuple es x1 pos) (tTupF t) := by
  refine ⟨fun pins s σ H Q I hq => wpAny_Tuple_spliced (thn (h.run pos pins s σ H _ I hq) fun us s1 ⟨xs, H1, I1, r, z, q⟩ => ⟨by rw [← r.length]; exact z, ?_⟩)⟩
  have at_ : (s1.heap.push { cls := .type "tuple", data := .seq us.toArray }).get? s1.heap.objs.size = some { cls := .type "tuple", data := .seq us.toArray } := Heap.get?_push_size _ rfl
  exact ⟨.ref s1.heap.objs.size, _, I1.laid (t' := s1.toks) (o := .frz { cls := .type "tuple", data := .seq us.toArray } (.tup xs)) (fun b u e => Heap.get?_push_of_some _ e) (Nat.le_refl _) ⟨at_, z, us, r, ⟨_, at_, rfl, _, rfl⟩⟩, rfl,
    q _ _ rfl (I1.hok.fresh (Nat.le_refl _))⟩
theorem raw_pairs {pins : List (Addr × Obj)} {σ : L2.St} {H : Hp} {s : Shared} (I : Inv X pins σ H s) : ∀ {ps : List Addr} {kvs : List (Key × V)}, Paired (fun p (kv : Key × V) => SqT X.K H p [kV kv.1, kv.2]) ps kvs →
    ∃ (prs : List (Key × Value)) (raw : List (Value × Value)), KV kvs prs ∧ raw.length = ps.length ∧ prs.length = ps.length ∧ ∀ j : Nat, j < ps.length → ∃ (b : Addr) (k : Key) (u x : Value), ps[j]? = some b ∧ prs[j]? = some (k, x) ∧ raw[j]? = some (u, x) ∧ IsTup s.heap b #[u, x] ∧ keyIs k u = true
  | _, _, .nil => ⟨[], [], .nil, rfl, rfl, fun j h => absurd h (Nat.not_lt_zero _)⟩
  | _, _, .cons (a := p) (b := kv) h t => by
    obtain ⟨prs, raw, r, l1, l2, each⟩ := raw_pairs I t
    obtain ⟨its, rv, ht, _⟩ := I.tuple h
    obtain ⟨u, y, rfl, ru, ry⟩ := vals2 rv
    refine ⟨(kv.1, y) :: prs, (u, y) :: raw, .cons ⟨rfl, ry⟩ r, congrArg (· + 1) l1, congrArg (· + 1) l2, fun j hj => ?_⟩
    cases j with
    | zero => exact ⟨p, kv.1, u, y, rfl, rfl, rfl, ht, kV_is (P := X.prog) (w := X.w) ru⟩
    | succ j => exact each j (Nat.lt_of_succ_lt_succ hj)
def rDictT (K : PySem.W.Frag) : List V → Hp → VK → Prop := fun vs H Q => ∃ (a : Addr) (ps : List Addr) (kvs : List (Key × V)), vs = [.ref a] ∧ PlT H a (ps.map V.ref) ∧ Paired (fun p (kv : Key × V) => SqT K H p [kV kv.1, kv.2]) ps kvs ∧
  ∀ p, H p = none → Q (.ref p) (upd H p (.dK (mergeK [] kvs)))
theorem cr_dictT (calm : X.calm = true) : CallR X (.type "dict") (rDictT X.K) := by
  intro pins s σ H vs us Q I r told
  obtain ⟨a, ps, kvs, rfl, ⟨o, od, ha⟩, pairs, go⟩ := told
  rw [Vals.ref1 r]
  obtain ⟨ho, hz, its, rv, oo, ho', hc, n, hd⟩ := (show ObjOk X.prog X.w H s.heap a (.frz o (.tup (ps.map V.ref))) from I.hok a _ ha)
  obtain rfl : o = oo := Option.some.inj (ho.symm.trans ho')
  have ei := refs_at rv
  subst ei
  obtain ⟨prs, raw, rel, l1, l2, each⟩ := raw_pairs I pairs
  rw [List.length_map] at hz
  have items : PairItems s.heap (ps.map Value.ref).toArray (fun j => ps.getD j 0) raw := by
    refine ⟨by simp [l1], fun j k v e => ?_⟩
    have lj : j < ps.length := by rw [← l1]; exact (List.getElem?_eq_some_iff.mp e).1
    obtain ⟨b, k', u, x, e1, e2, e3, e4, e5⟩ := each j lj
    obtain ⟨rfl, rfl⟩ : k = u ∧ v = x := by rw [e] at e3; cases e3; exact ⟨rfl, rfl⟩
    have gd : ps.getD j 0 = b := by rw [List.getD_eq_getElem?_getD, e1]; rfl
    refine ⟨by simp [e1, gd], .inl ?_⟩
    show s.heap.IsTuple (ps.getD j 0) #[k, v]
    rw [gd]
    exact e4
  refine PySem.call_dict_pairs (knd := mixKind X.prog X.w) (kvs := prs) (PairArg.tuple a _ _ raw) (I.ok.hd calm) ⟨⟨o, n, ho, hc, od, hd⟩, items⟩ ?_ (by omega) fun g tk now old => ?_
  · refine ⟨by omega, fun j k v e => ?_⟩
    have lj : j < ps.length := by rw [← l1]; exact (List.getElem?_eq_some_iff.mp (show raw[j]? = some (k, v) from e)).1
    obtain ⟨b, k', u, x, e1, e2, e3, e4, e5⟩ := each j lj
    obtain ⟨rfl, rfl⟩ : k = u ∧ v = x := by
      have e : raw[j]? = some (k, v) := e
      rw [e] at e3; cases e3; exact ⟨rfl, rfl⟩
    exact ⟨k', e2, e5⟩
  · have hm : (s.heap.objs.size == sysModules) = false := beq_eq_false_iff_ne.mpr (Nat.ne_of_gt I.big)
    have len : (mergeK [] kvs).length ≤ sizeLine := by
      have q := length_mergeK kvs []
      have z := rel.length
      rw [List.length_nil] at q
      omega
    exact ⟨.ref s.heap.objs.size, _, I.laid (t' := tk) (o := .dK (mergeK [] kvs)) (fun b u e => old b u (by simp) e) (Nat.le_refl _) ⟨len, hm, merged [] prs, KV.merge rel .nil, now⟩, rfl, go _ (I.hok.fresh (Nat.le_refl _))⟩
end
end Rp

/-! A def within a def, handed to another def and called there: what its cells hold is known where that def is called, and stays so while it runs. -/
namespace Rp
open PySem PySem.Spec PyProof.Rows L2 NdefX LamX
/-- what the cells of Fn hold, and that they are no caller's frame -/
def Held1 (cl : List (Str × Addr)) (fr : List Str) (ws : List (Option V)) (outer : List Env) (s : Shared) (H : Hp) : Prop := CellsAt cl fr ws s.heap H ∧ ∀ y c, cl.lookup y = some c → c ∉ frs outer
/-- a def's promise, kept where R is known of the caller's state -/
structure QnOk (P : Program) (w : World) (K : PySem.W.Frag) (mg : Str → Option Value) (base : Heap) (k : Nat) (f : Addr) (fd : FuncData) (ps : List Str) (R : List Env → Shared → Hp → Prop) (sp : Sp) : Prop where
  len : ∀ vs H Q E, sp vs H Q E → vs.length = ps.length
  run : ∀ (A : Around) (outer : List Env) (s : Shared) (H : Hp) (args : Args) (us : List Value) (vs : List V) (Q : VK) (E : XK), R outer s H → Room k A → Env0 P w K mg base A outer s H → BindsTo s fd args (ps.zip us) → Vals vs us → sp vs H Q E →
    codeAny (model P w) A (.call (.ref f) args) (CR CX0 outer P w H s Q E) s
section
variable {P : Program} {w : World} {K : PySem.W.Frag} {mg : Str → Option Value} {base : Heap}
/-- a def by its body, R told of the caller's state -/
theorem qok {x qual : Str} {st : Stmt} {f : Addr} {fd : FuncData} {N ps : List Str} {k : Nat} {R : List Env → Shared → Hp → Prop} {sp : Sp} (F : Fun K x qual st f fd) (S : FnScope N ps (defScope st)) (len : ∀ vs H Q E, sp vs H Q E → vs.length = ps.length)
    (walk : ∀ (cdv : Value) (A : Around) (outer : List Env) (s : Shared) (H : Hp) (vs : List V) (Q : VK) (E : XK), R outer s H → Room k (A.deeper (envOfC qual (defScope st) s.heap.objs.size f cdv)) → sp vs H Q E →
      ∃ t, PSs (cxOf CX0 P w K mg base N qual (defScope st) f cdv A outer s H E).nox (defBody st) t ∧ t { nx := fun _ H' => Q .non H', rt := Q } (start N vs) H) : QnOk P w K mg base (k + 1) f fd ps R sp := by
  obtain ⟨oc, od, kV, doc, pm, an, cdv, ct, osl, rfl, lk, hcd⟩ := F.ex
  refine ⟨len, fun A outer s H args us vs Q E hR hr e0 hb r hsp => ?_⟩
  have K0 : K.In s.heap := e0.mod.kin.keeps fun b o e => (e0.bs b o e).1
  have L0 : s.heap.NoLimit := e0.mod.nolimit.keeps fun b o e => (e0.bs b o e).1
  have each : ∀ y ∈ ps.zip us, (defScope st).names.lookup y.1 = some .local ∨ ((defScope st).names.lookup y.1 = some .cell ∧ ((cellsFrom (s.heap.objs.size + 1) (defScope st).names []).lookup y.1).isSome = true) := by
    rintro ⟨n, v⟩ hy
    exact (S.par n (List.of_mem_zip hy).1).imp id fun q => ⟨q, PySem.W.cellsFrom_some _ _ _ (.inl q)⟩
  refine codeAny_call_function hr.depth (K0 _ _ lk) rfl S.co S.gen rfl (PySem.W.codeRec_of K0 hcd) (hb _ _ _ _ (wpAny_newFunctionEnv_cells S.kind each fun env he s1 z => ?_))
  subst he
  refine ⟨L0.keeps z.toInCall.keep, codeAny_func ?_⟩
  obtain ⟨t, ht, hq⟩ := walk cdv A outer s H vs Q E hR (hr.deeper _) hsp
  have I : L2.Inv (cxOf CX0 P w K mg base N qual (defScope st) f cdv A outer s H E) [] (start N vs) H s1 := inv_start S hr.hd e0 (len _ _ _ _ hsp) r z
  refine wpAny_mono (ht.nox.run [] s1 (start N vs) H _ I hq) (fun fl s' hs => ?_) fun e s' hs => hs
  rcases fl with _ | _ | _ | u
  · obtain ⟨_, H', J, q⟩ := hs
    exact ⟨V.non, H', J.os, J.bare, J.base, J.hok, rfl, q⟩
  · exact hs.choose_spec.choose_spec.2.elim
  · exact hs.choose_spec.choose_spec.2.elim
  · obtain ⟨v, _, H', J, rv, q⟩ := hs
    exact ⟨v, H', J.os, J.bare, J.base, J.hok, rv, q⟩
end
section
variable {X : Cx} {k j i : Nat} {f : Addr} {fd : FuncData} {ps fr : List Str} {E : XK} {x : Str} {p pos : Pos} {e : Expr} {es : List Expr} {t : TA} {cl : List (Str × Addr)} {js : List Nat}
/-- a cell of the running frame is no caller's frame -/
theorem cells_apart {pins : List (Addr × Obj)} {σ : L2.St} {H : Hp} {s : Shared} (I : L2.Inv X pins σ H s) (stk : X.stack = X.env :: X.outer ∧ X.env.frame = some X.env.locals) (fn : ∀ y, X.fn y = true) (low : ∀ b ∈ frs X.outer, b < X.s_0.heap.objs.size) {y : Str} {c : Addr} (hc : X.env.cells.lookup y = some c) : c ∉ frs X.stack := by
  intro hm
  rw [stk.1] at hm
  have hm : c ∈ (X.env :: X.outer).filterMap (·.frame) := hm
  rw [List.filterMap_cons, stk.2] at hm
  rcases List.mem_cons.mp hm with e | hm
  · obtain ⟨m, ⟨o, es, ep, h1, h2, _⟩, _⟩ := I.loc
    obtain ⟨v, o', h1', h2'⟩ := I.cell y c hc
    rw [e, h1] at h1'
    cases h1'
    rw [h2] at h2'
    cases h2'
  · have a := low c hm
    have b := I.ok.cab y c (fn y) hc
    exact absurd a (Nat.not_lt.mpr b)
theorem low_frames {h base : Heap} {l : List Env} (hf : Heap.FunFrames h base l) : ∀ b ∈ frs l, b < h.objs.size := fun b hb => by
  obtain ⟨_, o, ho, _⟩ := hf.mem hb
  exact Heap.lt_size ho
/-- f(e, ..), f a def of the module that wants to know what a handed def's cells hold -/
def tCallQ (sp : Addr → Addr → List (Option V) → Sp) (js : List Nat) (E : XK) (t : TA) : TE := fun σ H Q => t σ H fun vs H1 => ∃ g c', sp g c' (js.map (slotAt σ)) vs H1 Q E
theorem pe_callQ {sp : Addr → Addr → List (Option V) → Sp} (F : ∀ g c' ws, QnOk X.prog X.w X.K X.mg X.base k f fd ps (Held1 cl fr ws) (sp g c' ws)) (cp : X.Ok → Caps X cl fr js) (stk : X.stack = X.env :: X.outer ∧ X.env.frame = some X.env.locals) (fn : ∀ y, X.fn y = true)
    (hr : Room k X.A) (hg : Gl X x) (hm : X.mg x = some (.ref f)) (hk : PySem.W.keepIn X.K (.ref f) = true) (hb : Binds X.K fd ps []) (ha : PA X (e :: es) t)
    (hdb : (x == ("__debug__" : Str)) = false := by decide) (he : starEach (e :: es) X.env = (false, eval e X.env) :: starEach es X.env := by rfl) (hpl : (backTo pos (starEach es X.env)).any (·.1) = false := by rfl) :
    PE X (.Call (.Name x p) (e :: es) [] pos) (tCallQ sp js E0 t) := by
  refine ⟨fun pins s σ H Q I h => wpAny_Call_Name_kw (ld_glob I hg hm ?_ hdb)⟩
  refine PySem.W.callWith_K (h₀ := X.base) I.ok.mod.kin hk (thn (ha.run pos pins s σ H _ I h) fun us s1 ⟨vs, H1, I1, r, g, c', q⟩ => ⟨I1.kIn, ?_⟩) he hpl
  have hl : us.length = ps.length := r.length.symm.trans ((F g c' _).len _ _ _ _ q)
  have hb' := hb s1 us I1.kIn (by rw [List.append_nil]; exact hl)
  rw [List.append_nil] at hb'
  have held : Held1 cl fr (js.map (slotAt σ)) X.stack s1 H1 := ⟨cells_of I1 (cp I1.ok), fun y c hc => cells_apart I1 stk fn (low_frames I1.ok.funs) ((cp I1.ok).sub y c hc)⟩
  refine wpAny_call (codeAny_mono ((F g c' _).run X.A X.stack s1 H1 ⟨us, []⟩ us vs Q E0 held hr I1.env0 hb' r q) fun r' s' hq => ?_)
  rcases r' with e' | fl
  · exact hq.elim
  · rcases fl with _ | _ | _ | u
    · exact hq.elim
    · exact hq.elim
    · exact hq.elim
    · exact I1.after hq
/-- f(e, ..), f a local name that holds a handed def; what its cells hold was known at this def's own start -/
def tCallV (i : Nat) (g : Addr) (Fn : NF) (ws : List (Option V)) (sp : List (Option V) → Sp) (E : XK) (t : TA) : TE := fun σ H Q => σ[i]? = some (some (.ref g)) ∧ H g = some (FnO g Fn) ∧ t σ H fun vs H1 => H1 g = some (FnO g Fn) ∧ H1 Fn.c = some (CodeO Fn.c Fn.qual) ∧ sp ws vs H1 Q E
theorem pe_callV {Fn : NF} {g : Addr} {ws : List (Option V)} {sp : List (Option V) → Sp} (N : NOk X.prog X.w X.K X.mg X.base CX0 k g Fn ps fr sp) (held : Held1 Fn.cl fr ws X.outer X.s_0 X.H_0) (exn : X.ex = []) (hr : Room k X.A) (hN : X.N[i]? = some x) (hv : Vis X.env.scope x) (ha : PA X (e :: es) t)
    (hd : (x == ("__debug__" : Str)) = false := by decide) (hcd : (x == ("__classdict__" : Str)) = false := by decide)
    (he : starEach (e :: es) X.env = (false, eval e X.env) :: starEach es X.env := by rfl) (hpl : (backTo pos (starEach es X.env)).any (·.1) = false := by rfl) : PE X (.Call (.Name x p) (e :: es) [] pos) (tCallV i g Fn ws sp E0 t) := by
  refine ⟨fun pins s σ H Q I h => ?_⟩
  obtain ⟨hs, hf, ht⟩ := h
  refine wpAny_Call_Name_kw (thn ((pe_var (pos := p) hN hv hd hcd).run pins s σ H (fun v H1 => v = .ref g ∧ H1 = H) I ⟨.ref g, hs, rfl, rfl⟩) fun u s1 ⟨v, H1, I1, rel, ev, eH⟩ => ?_)
  subst ev
  rw [eH] at I1
  obtain rfl : u = Value.ref g := rel
  refine PySem.W.callWith_F (first := []) (fnAt_of I1 hf) (thn (ha.run pos pins s1 σ H _ I1 ht) fun us s2 ⟨vs, H2, I2, r, h1, h2, q⟩ => ⟨fnAt_of I2 h1, ?_⟩) he hpl
  show wpAny _ _ (call (.ref g) us) _ _ _
  have C : CellsAt Fn.cl fr ws s2.heap H2 := held.1.later held.2 (fun y c _ => by rw [exn]; simp) I2
  refine wpAny_call (codeAny_mono (N.run X.A X.stack s2 H2 us vs ws Q E0 hr I2.env0 h1 h2 C r q) fun r' s' hq => ?_)
  rcases r' with e' | fl
  · exact hq.elim
  · rcases fl with _ | _ | _ | u
    · exact hq.elim
    · exact hq.elim
    · exact hq.elim
    · exact I2.after hq
end
end Rp

/-! put: a dict of the BINDING, a def within the def that knows it, folded. -/
namespace Rp
open PySem PySem.Spec PyProof.Rows L2 TL NdefX LamX StX
abbrev Bd := List (Int × Tm)
namespace Tm
def put (b : Bd) : Tm → Tm
  | v n => (b.lookup n).getD (v n)
  | z => z
  | s t => s (t.put b)
  | f l r => f (l.put b) (r.put b)
end Tm
/-- what a dict of a BINDING tells -/
def DbAt (H : Hp) (kvs : List (Key × V)) (bd : Bd) : Prop := ∀ n : Int, (∃ v t, valV kvs (Sum.inl n) = some v ∧ bd.lookup n = some t ∧ TmAt H v t) ∨ (valV kvs (Sum.inl n) = none ∧ bd.lookup n = none)
theorem DbAt.mono {H H' : Hp} {kvs : List (Key × V)} {bd : Bd} (e : ∀ a xs, H a = some (.tup xs) → H' a = some (.tup xs)) (D : DbAt H kvs bd) : DbAt H' kvs bd :=
  fun n => (D n).imp (fun ⟨v, t, a, b, c⟩ => ⟨v, t, a, b, c.mono e⟩) id
/-- pairs of a variable and a TERM -/
def PrAt (H : Hp) (p : Addr) (kv : Int × Tm) : Prop := ∃ x, H p = some (.tup [.int kv.1, x]) ∧ TmAt H x kv.2
theorem PrAt.mono {H H' : Hp} {p : Addr} {kv : Int × Tm} (e : ∀ a xs, H a = some (.tup xs) → H' a = some (.tup xs)) : PrAt H p kv → PrAt H' p kv := fun ⟨x, h, t⟩ => ⟨x, e _ _ h, t.mono e⟩
/-- a BINDING: a plain tuple of pairs, its variables unlike -/
def BdAt (H : Hp) (a : Addr) (bd : Bd) : Prop := ∃ ps : List Addr, PlT H a (ps.map V.ref) ∧ Paired (PrAt H) ps bd ∧ (bd.map (·.1)).Nodup ∧ bd.length ≤ 1000
/-- all tuples stay, plain ones too -/
def Tups (H H' : Hp) : Prop := (∀ a xs, H a = some (.tup xs) → H' a = some (.tup xs)) ∧ ∀ a o xs, H a = some (.frz o (.tup xs)) → H' a = some (.frz o (.tup xs))
theorem Tups.same {H H' : Hp} (e : Same H H') : Tups H H' := ⟨fun _ _ h => e _ _ h, fun _ _ _ h => e _ _ h⟩
theorem Tups.ext {H H' : Hp} (e : ExtN H H') : Tups H H' := ⟨fun _ _ h => e _ _ h (fun _ z => by cases z), fun _ _ _ h => e _ _ h (fun _ z => by cases z)⟩
theorem Tups.but {H H' : Hp} {b : Addr} {ys : List V} (e : But b H H') (hb : H b = some (.lst ys)) : Tups H H' :=
  ⟨fun _ _ h => e _ _ h (ne_of h hb (by intro z; cases z)), fun _ _ _ h => e _ _ h (ne_of h hb (by intro z; cases z))⟩
theorem Tups.trans {H H1 H2 : Hp} (a : Tups H H1) (b : Tups H1 H2) : Tups H H2 := ⟨fun _ _ h => b.1 _ _ (a.1 _ _ h), fun _ _ _ h => b.2 _ _ _ (a.2 _ _ _ h)⟩
theorem BdAt.mono {H H' : Hp} {a : Addr} {bd : Bd} (e : Tups H H') : BdAt H a bd → BdAt H' a bd :=
  fun ⟨ps, h, p, nd, z⟩ => ⟨ps, h.mono fun o => e.2 _ _ _, L2.Paired.mapP p fun _ _ q => q.mono e.1, nd, z⟩
/-- the inner def -/
abbrev sEx : Stmt := (defBody sPut).getD 1 (.Pass ⟨0, 0, 0, 0⟩)
abbrev qEx : Str := ("put" : Str) ++ ".<locals>." ++ "exchanged"
abbrev nfEx (cl : List (Str × Addr)) (c : Addr) : NF := NF.of sEx "exchanged" qEx cl c
abbrev nmEx : Nat → Nat → Str := fun _ _ => qEx
abbrev NEx : List Str := ["part", "below", "found"]
def spEx (ws : List (Option V)) : Sp := fun vs H Q _ => ∃ (x : V) (k : Tm) (l D : Addr) (ks : List V) (bd : Bd) (kvs : List (Key × V)), vs = [x, .ref l] ∧ ws = [some (.ref D)] ∧ TmAt H x k ∧ H l = some (.lst ks) ∧ AllAt H ks (k.kids.map (Tm.put bd)) ∧
  H D = some (.dK kvs) ∧ DbAt H kvs bd ∧ ∀ (v : V) (H' : Hp), TmAt H' v (k.put bd) → Same H H' → Q v H'
section
variable {P : Program} {w : World} {K : PySem.W.Frag} {mg : Str → Option Value} {base : Heap}
theorem scEx (cl : List (Str × Addr)) (c : Addr) : NScope NEx ["part", "below"] ["found"] (nfEx cl c).scope := nscope_by (show nscB NEx ["part", "below"] ["found"] (C8.fnScope sEx) = true by decide +kernel)
theorem ok_ex {g c : Addr} {cl : List (Str × Addr)} (mIsi : mg "isinstance" = none) (mInt : mg "int" = none) : NOk P w K mg base CX0 1 g (nfEx cl c) ["part", "below"] ["found"] spEx := by
  refine nok_of (scEx cl c) (fun _ _ _ us hl => match us, hl with | [_, _], _ => rfl) (fun ws vs H Q E h => ?_) (fun A outer s H vs ws Q E hr hf hc hl h => ?_)
  · obtain ⟨x, k, l, D, ks, bd, kvs, rfl, _⟩ := h
    rfl
  obtain ⟨x, k, l, D, ks, bd, kvs, rfl, rfl, T, h1, A1, hD, DB, q⟩ := h
  have hu := hu_of hr
  refine ⟨_, pss_cons (ps_if (pt_val (pe_callB call_isi (by rfl) mIsi (by decide +kernel) (pa_cons (pv 0) (pa_cons (pe_bltn (v := .ty "int") (by rfl) mInt (by decide +kernel) rfl) pa_nil))))
      (pss_one (ps_ret (pe_dget2 hu (pv 2) (pv 0) (pv 0) ⟨rfl, rfl, rfl, rfl⟩))) pss_nil)
    (pss_one (ps_ret (pe_tup (pa_cons (pe_ix ix_tup (pv 0) pe_int (fun _ _ => rfl)) (pa_star (pv 1) pa_nil))))), ?_⟩
  rcases T.ty (K := K) with ⟨m, rfl, rfl⟩ | ⟨a, xs, rfl, ha, ty, no⟩
  · refine ⟨_, rfl, _, _, _, _, true, rfl, .ty "int", .base (.int m), kit_ii, true, rfl, iteT ?_⟩
    refine ⟨_, rfl, D, rfl, .inl ⟨_, .inl hD⟩, _, rfl, _, rfl, ?_⟩
    rcases DB m with ⟨v, t, e1, e2, T'⟩ | ⟨e1, e2⟩
    · refine ⟨some v, .inl ⟨kvs, Sum.inl m, .inl hD, rfl, e1.symm⟩, q v H ?_ fun _ _ z => z⟩
      show TmAt H v ((bd.lookup m).getD (.v m))
      rw [e2]
      exact T'
    · refine ⟨none, .inl ⟨kvs, Sum.inl m, .inl hD, rfl, e1.symm⟩, q _ H ?_ fun _ _ z => z⟩
      show TmAt H (.int m) ((bd.lookup m).getD (.v m))
      rw [e2]
      exact .v m
  · obtain ⟨a', us, e, ha', hk, hks⟩ := T.tupled no
    cases e
    refine ⟨_, rfl, _, _, _, _, false, rfl, .ty "int", ty, kit_ti, false, rfl, iteF ?_⟩
    have kl := A1.len
    rw [List.length_map] at kl
    refine ⟨_, rfl, _, _, _, _, rfl, rfl, .inl (.inl ha'), at_of (j := 0) rfl rfl, _, rfl, l, ks, rfl, .inr (.inl (.inl h1)), ?_, fun p hp => ?_⟩
    · have : k.kids.length ≤ 2 := by cases k <;> simp [Tm.kids]
      simp only [List.append_nil, List.length_cons]
      have : (3 : Nat) ≤ sizeLine := by decide
      omega
    · have s1 := same_new hp (.tup (V.str (signHead k) :: (ks ++ [])))
      have hp1 : (upd H p (.tup (V.str (signHead k) :: (ks ++ [])))) p = some (.tup (V.str (signHead k) :: (ks ++ []))) := upd_same
      rw [List.append_nil] at hp1
      refine q (.ref p) _ ?_ s1
      rw [List.append_nil] at s1
      have A2 := A1.mono (Tups.same s1).1
      cases k with
      | v n => exact absurd rfl (no n)
      | z =>
        match ks, A2, hp1 with
        | [], _, hp1 => rw [List.append_nil]; exact .z hp1
      | s t =>
        match ks, A2, hp1 with
        | [x], A2, hp1 => rw [List.append_nil]; exact .s hp1 A2.1
      | f l' r =>
        match ks, A2, hp1 with
        | [x, y], A2, hp1 => rw [List.append_nil]; exact .f hp1 A2.1 A2.2.1
end
end Rp

/-! put: fold with the inner def, put itself. -/
namespace Rp
open PySem PySem.Spec PyProof.Rows L2 TL NdefX LamX StX
theorem AllAt.split {H : Hp} {xs : List V} {a b : List Tm} (h : AllAt H xs (a ++ b)) : ∃ ys zs, xs = ys ++ zs ∧ AllAt H ys a ∧ AllAt H zs b := by
  have l := h.len
  rw [List.length_append] at l
  refine ⟨xs.take a.length, xs.drop a.length, (List.take_append_drop _ _).symm, ?_⟩
  rw [← List.take_append_drop a.length xs] at h
  obtain ⟨t1, t2, e, h1, h2⟩ := h.parted
  have l1 := h1.len
  rw [List.length_take] at l1
  obtain ⟨rfl, rfl⟩ := List.append_inj e (by omega)
  exact ⟨h1, h2⟩
theorem put_kids (bd : Bd) {t : Tm} (no : ∀ n, t ≠ .v n) : (t.put bd).kids = t.kids.map (Tm.put bd) := by
  cases t with
  | v n => exact absurd rfl (no n)
  | z => rfl
  | s t => rfl
  | f l r => rfl
abbrev slEx (D : Addr) : List (Option V) := [some (.ref D)]
def spFoldE (g c : Addr) (cl : List (Str × Addr)) (ws : List (Option V)) : Sp := fun vs H Q _ => ∃ (v : V) (t : Tm) (D : Addr) (bd : Bd) (kvs : List (Key × V)), vs = [v, .ref g] ∧ ws = slEx D ∧ TmAt H v t ∧ t.size ≤ 1000 ∧ H g = some (FnO g (nfEx cl c)) ∧ H c = some (CodeO c qEx) ∧
  H D = some (.dK kvs) ∧ DbAt H kvs bd ∧ ∀ (v' : V) (H' : Hp), TmAt H' v' (t.put bd) → Same H H' → Q v' H'
section
variable {P : Program} {w : World} {K : PySem.W.Frag} {mg : Str → Option Value} {base : Heap}
theorem scFold : FnScope ["term", "made_of", "made", "part", "first"] ["term", "made_of"] (defScope sFold) := ⟨rfl, rfl, rfl, by decide +kernel, rfl, by decide +kernel, by decide +kernel⟩
theorem ok_fold {f fI fP : Addr} {fd dI dP : FuncData} (F : Fun K "fold" "fold" sFold f fd)
    (GI : FnOk P w K mg base CX0 2 fI dI ["term"] spInside) (kI : PySem.W.keepIn K (.ref fI) = true) (bI : Binds K dI ["term"] []) (mI : mg "inside_out" = some (.ref fI))
    (GP : FnOk P w K mg base CX0 1 fP dP ["term"] spParts) (kP : PySem.W.keepIn K (.ref fP) = true) (bP : Binds K dP ["term"] []) (mP : mg "_parts" = some (.ref fP))
    (mLen : mg "len" = none) (mIsi : mg "isinstance" = none) (mInt : mg "int" = none) (g c : Addr) (cl : List (Str × Addr)) (ws : List (Option V)) :
    QnOk P w K mg base 3 f fd ["term", "made_of"] (Held1 cl ["found"] ws) (spFoldE g c cl ws) := by
  refine qok F scFold (fun vs H Q E h => ?_) (fun cdv A outer s H vs Q E held hr h => ?_)
  · obtain ⟨v, t, D, bd, kvs, rfl, _⟩ := h
    rfl
  obtain ⟨v, t, D, bd, kvs, rfl, rfl, T, sz, hg, hc, hD, DB, q⟩ := h
  have r1 : Room 1 _ := hr.mono (by decide)
  have GE : NOk P w K mg base CX0 1 g (nfEx cl c) ["part", "below"] ["found"] spEx := ok_ex mIsi mInt
  refine ⟨_, pss_cons (ps_set (i := 2) scFold.nd rfl (Or.inl rfl) (pe_lst pa_nil))
    (pss_cons (ps_for PassesOwn.never rfl (pi_list (pe_call GI hr rfl mI kI bI .nil pass0 (pa_cons (pv 0) pa_nil))) (pg_name (i := 3) scFold.nd rfl (Or.inl rfl))
      (pss_cons (ps_set (i := 4) scFold.nd rfl (Or.inl rfl) (pe_op op_sub (pe_callB call_len_seq (by rfl) mLen PySem.boot_len (pa_cons (pv 2) pa_nil)) (pe_callB call_len_seq (by rfl) mLen PySem.boot_len (pa_cons (pe_call GP r1 rfl mP kP bP .nil pass0 (pa_cons (pv 3) pa_nil)) pa_nil))))
      (pss_one (ps_tail (pv 2) (po_some (pv 4)) (pe_lst (pa_cons (pe_callV (i := 1) (ws := slEx D) GE held rfl r1 rfl (Or.inl rfl) (pa_cons (pv 3) (pa_cons (pe_slice sl_list (pv 2) (po_some (pv 4)) po_none) pa_nil))) pa_nil))))))
    (pss_one (ps_ret (pe_ix ix_list (pv 2) pe_int (fun _ _ => rfl))))), ?_⟩
  refine ⟨(by show 0 ≤ sizeLine; decide), fun m hm => ?_⟩
  have s0 := same_new hm (.lst ([] : List V))
  refine ⟨_, rfl, v, t, rfl, T.same s0, sz, fun p xs H1 hp h1 A1 s1 => ?_⟩
  have hm1 := s1 _ _ (upd_same : (upd H m (.lst ([] : List V))) m = some (.lst []))
  have pm : p ≠ m := (ne_of_none (upd_same : (upd H m (.lst ([] : List V))) m = some (.lst [])) hp).symm
  have gm : g ≠ m := ne_of_none hg hm
  have cm : c ≠ m := ne_of_none hc hm
  have Dm : D ≠ m := ne_of_none hD hm
  have len := A1.len
  rw [List.length_reverse, Tm.rpost_len] at len
  have post : t.rpost.reverse.length = t.size := by rw [List.length_reverse, Tm.rpost_len]
  have big : (10000 : Nat) ≤ sizeLine := by decide
  refine ⟨p, rfl, ⟨_, .inl (.inl h1)⟩, for_list (K := K) (a := p) (xs := xs) (fun i σ H2 => ∃ (S : List Tm) (ys : List V) (x3 x4 : Option V), σ = [some v, some (.ref g), some (.ref m), x3, x4] ∧ H2 m = some (.lst ys) ∧ AllAt H2 ys (S.map (Tm.put bd)) ∧
      runs S (t.rpost.reverse.drop i) [t] ∧ S.length ≤ i ∧ But m H1 H2) ⟨[], [], none, none, rfl, hm1, trivial, ?_, by simp, But.refl _ _⟩ (fun i σ H2 _ ⟨_, _, _, _, _, _, _, _, _, o⟩ => .inl (.inl (o _ _ h1 pm))) ?_ ?_⟩
  · have := runs_post t [] [] [t] rfl
    simpa using this
  · rintro i x σ H2 hi ⟨S, ys, x3, x4, rfl, h2, A2, run, sl, o2⟩
    obtain ⟨k, hk, Tk⟩ := A1.get hi
    have li : i < t.rpost.reverse.length := (List.getElem?_eq_some_iff.mp hk).1
    have ek : t.rpost.reverse.drop i = k :: t.rpost.reverse.drop (i + 1) := by
      rw [List.drop_eq_getElem_cons li, (List.getElem?_eq_some_iff.mp hk).2]
    rw [ek] at run
    obtain ⟨S0, rfl, run⟩ := run
    rw [List.map_append] at A2
    obtain ⟨y1, y2, rfl, B1, B2⟩ := A2.split
    have l1 := B1.len
    have l2 := B2.len
    rw [List.length_map] at l1 l2
    have T2 := Tk.but o2 hm1
    rw [List.length_append] at sl
    have hg2 := o2 _ _ (s1 _ _ (s0 _ _ hg)) gm
    have hc2 := o2 _ _ (s1 _ _ (s0 _ _ hc)) cm
    have hD2 := o2 _ _ (s1 _ _ (s0 _ _ hD)) Dm
    have DB2 := (DB.mono (Tups.same s0).1 |>.mono (Tups.same s1).1).mono (Tups.but o2 hm1).1
    refine ⟨_, rfl, m, _, rfl, .inl (.inl (.inl h2)), _, rfl, x, k, rfl, T2, fun u ks H3 hu h3 A3 s3 => ?_⟩
    have kl := A3.len
    refine ⟨u, _, rfl, .inr (.inl (.inl h3)), _, _, rfl, rfl, ?_⟩
    have h23 := s3 _ _ h2
    have first : ((((y1 ++ y2).length : Nat) : Int) - ((ks.length : Nat) : Int)) = ((y1.length : Nat) : Int) := by
      rw [List.length_append, kl]; omega
    refine ⟨rfl, s3 _ _ hg2, _, rfl, _, rfl, _, rfl, _, rfl, m, _, rfl, .inl (.inl h23), fun d hd => ?_⟩
    have dm : d ≠ m := (ne_of_none h23 hd).symm
    rw [cut_from (i := y1.length) first]
    have cut : (y1 ++ y2).drop y1.length = y2 := by rw [List.drop_left']; rfl
    rw [cut]
    have s4 := same_new hd (.lst y2)
    have s24 : Same H2 (upd H3 d (.lst y2)) := s3.trans s4
    refine ⟨s24 _ _ hg2, s24 _ _ hc2, x, k, d, D, y2, bd, kvs, rfl, rfl, T2.same s24, upd_same, B2.mono (Tups.same s24).1, s24 _ _ hD2, DB2.mono (Tups.same s24).1, fun v' H4 T4 s4' => ?_⟩
    refine ⟨(by show 1 ≤ sizeLine; decide), fun b hb => ?_⟩
    have s5 := same_new hb (.lst [v'])
    have h24 := s4' _ _ (s4 _ _ h23)
    have h25 := s5 _ _ h24
    refine ⟨_, rfl, _, rfl, _, rfl, m, b, _, _, y1.length, rfl, rfl, congrArg some first, h25, upd_same, ne_of_none h24 hb, ?_, ?_, ?_⟩
    · rw [List.length_append]; omega
    · rw [List.length_append, List.length_singleton]; omega
    · have s25 : Same H2 (upd H4 b (.lst [v'])) := (s24.trans s4').trans s5
      have u6 : Tups (upd H4 b (.lst [v'])) (upd (upd H4 b (.lst [v'])) m (.lst ((y1 ++ y2).take y1.length ++ [v']))) := Tups.but (but_upd _) h25
      refine ⟨S0 ++ [k], y1 ++ [v'], _, _, rfl, ?_, ?_, run, ?_, ?_⟩
      · rw [upd_same, List.take_left' rfl]
      · rw [List.map_append]
        exact ((B1.mono (Tups.same s25).1).mono u6.1).append ⟨(T4.same s5).mono u6.1, trivial⟩
      · rw [List.length_append, List.length_singleton]
        omega
      · intro c' o' z nc
        rw [upd_ne nc]
        exact s25 _ _ (o2 _ _ z nc)
  · rintro σ H2 ⟨S, ys, x3, x4, rfl, h2, A2, run, sl, o2⟩
    rw [List.drop_of_length_le (by omega)] at run
    obtain rfl : S = [t] := run
    match ys, A2 with
    | [y], A2 =>
      refine ⟨_, rfl, m, _, _, _, rfl, rfl, .inl (.inl h2), at_of (j := 0) rfl rfl, q y H2 A2.1 ?_⟩
      exact fun c o z => o2 c o (s1 _ _ (s0 _ _ z)) (ne_of_none z hm)
end
end Rp

/-! put itself; all but the tables stays. -/
namespace Rp
open PySem PySem.Spec PyProof.Rows L2 TL NdefX LamX StX
/-- all but the tables stays, the tables are tables still -/
structure Ext (T : List NTab) (H H' : Hp) : Prop where
  ext : ExtN H H'
  tab : TabsN T H'
  nn : ∀ b, H' b = none → H b = none
theorem same_none {H H' : Hp} (e : Same H H') (b : Addr) (h : H' b = none) : H b = none := by
  cases q : H b with
  | none => rfl
  | some u => have := e _ _ q; rw [h] at this; cases this
theorem Ext.same {T : List NTab} {H H' : Hp} (t : TabsN T H) (e : Same H H') : Ext T H H' := ⟨ExtN.of e, t.ext e, same_none e⟩
theorem Ext.trans {T : List NTab} {H H1 H2 : Hp} (a : Ext T H H1) (b : Ext T H1 H2) : Ext T H H2 := ⟨a.ext.trans b.ext, b.tab, fun x h => a.nn _ (b.nn _ h)⟩
theorem Ext.lst {T : List NTab} {H H' : Hp} (e : Ext T H H') {a : Addr} {xs : List V} (h : H a = some (.lst xs)) : H' a = some (.lst xs) := e.ext _ _ h fun _ z => by cases z
theorem Ext.tups {T : List NTab} {H H' : Hp} (e : Ext T H H') : Tups H H' := Tups.ext e.ext
theorem pairs_of {K : PySem.W.Frag} {H : Hp} : ∀ {ps : List Addr} {bd : Bd}, Paired (PrAt H) ps bd → ∃ kvs : List (Key × V), Paired (fun p (kv : Key × V) => SqT K H p [kV kv.1, kv.2]) ps kvs ∧ Paired (fun (kv : Key × V) (q : Int × Tm) => kv.1 = Sum.inl q.1 ∧ TmAt H kv.2 q.2) kvs bd
  | _, _, .nil => ⟨[], .nil, .nil⟩
  | _, _, .cons (b := q) h t => by
    obtain ⟨x, hx, tx⟩ := h
    obtain ⟨kvs, h1, h2⟩ := pairs_of (K := K) t
    exact ⟨(Sum.inl q.1, x) :: kvs, .cons (.inl (.inl hx)) h1, .cons ⟨rfl, tx⟩ h2⟩
theorem merged_tells {H : Hp} : ∀ {kvs : List (Key × V)} {bd : Bd}, Paired (fun (kv : Key × V) (q : Int × Tm) => kv.1 = Sum.inl q.1 ∧ TmAt H kv.2 q.2) kvs bd → (bd.map (·.1)).Nodup → ∀ (acc : List (Key × V)) (n : Int),
    (bd.lookup n = none → valV (mergeK acc kvs) (Sum.inl n) = valV acc (Sum.inl n)) ∧ (∀ t, bd.lookup n = some t → ∃ v, valV (mergeK acc kvs) (Sum.inl n) = some v ∧ TmAt H v t)
  | _, _, .nil, _, acc, n => ⟨fun _ => rfl, fun t h => by cases h⟩
  | _, _, .cons (a := kv) (l₁ := kvs) (b := q) (l₂ := bd) h t, nd, acc, n => by
    obtain ⟨k, y⟩ := kv
    obtain ⟨m, tm⟩ := q
    obtain ⟨e, T⟩ := h
    have e : k = Sum.inl m := e
    subst e
    have T : TmAt H y tm := T
    rw [List.map_cons, List.nodup_cons] at nd
    have ih := merged_tells t nd.2 (putK acc (Sum.inl m) y) n
    have step : mergeK acc ((Sum.inl m, y) :: kvs) = mergeK (putK acc (Sum.inl m) y) kvs := rfl
    rw [step]
    by_cases hn : n = m
    · subst hn
      have no : bd.lookup n = none := by
        rw [List.lookup_eq_none_iff]
        intro p hp
        have : n ≠ p.1 := fun z => nd.1 (List.mem_map.mpr ⟨p, hp, z.symm⟩)
        simpa using this
      have hl : ((n, tm) :: bd).lookup n = some tm := by simp [List.lookup]
      refine ⟨fun z => ?_, fun t' z => ?_⟩
      · rw [hl] at z; cases z
      · rw [hl] at z; cases z
        refine ⟨y, ?_, T⟩
        rw [ih.1 no, valV_put, if_pos rfl]
    · have hl : ((m, tm) :: bd).lookup n = bd.lookup n := by
        rw [List.lookup_cons, beq_eq_false_iff_ne.mpr hn]
      rw [hl]
      refine ⟨fun z => ?_, ih.2⟩
      rw [ih.1 z, valV_put, if_neg (fun z => hn (Sum.inl.inj z))]
theorem dict_of {H : Hp} {kvs : List (Key × V)} {bd : Bd} (h : Paired (fun (kv : Key × V) (q : Int × Tm) => kv.1 = Sum.inl q.1 ∧ TmAt H kv.2 q.2) kvs bd) (nd : (bd.map (·.1)).Nodup) : DbAt H (mergeK [] kvs) bd := fun n => by
  obtain ⟨h1, h2⟩ := merged_tells h nd [] n
  cases e : bd.lookup n with
  | none => exact .inr ⟨h1 e, rfl⟩
  | some t =>
    obtain ⟨v, a, b⟩ := h2 t e
    exact .inl ⟨v, t, a, rfl, b⟩
def spPut (T : List NTab) : Sp := fun vs H Q _ => ∃ (v : V) (t : Tm) (a : Addr) (bd : Bd), vs = [v, .ref a] ∧ TmAt H v t ∧ t.size ≤ 1000 ∧ BdAt H a bd ∧ TabsN T H ∧ ∀ (v' : V) (H' : Hp), TmAt H' v' (t.put bd) → Ext T H H' → Q v' H'
section
variable {P : Program} {w : World} {K : PySem.W.Frag} {mg : Str → Option Value} {base : Heap}
/-- a def by its body, its code object told -/
theorem okC {x qual : Str} {st : Stmt} {f c : Addr} {fd : FuncData} {N ps : List Str} {k : Nat} {sp : Sp} (F : Fun K x qual st f fd) (hc : fd.code = .ref c) (S : FnScope N ps (defScope st)) (len : ∀ vs H Q E, sp vs H Q E → vs.length = ps.length)
    (walk : ∀ (A : Around) (outer : List Env) (s : Shared) (H : Hp) (vs : List V) (Q : VK) (E : XK), Room k (A.deeper (envOfC qual (defScope st) s.heap.objs.size f (.ref c))) → sp vs H Q E →
      ∃ t, PSs (cxOf CX0 P w K mg base N qual (defScope st) f (.ref c) A outer s H E).nox (defBody st) t ∧ t { nx := fun _ H' => Q .non H', rt := Q } (start N vs) H) : FnOk P w K mg base CX0 (k + 1) f fd ps sp := by
  obtain ⟨oc, od, kV, doc, pm, an, cdv, ct, osl, rfl, lk, hcd⟩ := F.ex
  obtain rfl : cdv = .ref c := hc
  refine fn_of lk hcd S len fun A outer s H vs Q E hr hsp => ?_
  obtain ⟨t, h, q⟩ := walk A outer s H vs Q E hr hsp
  exact ⟨t, h.nox, q⟩
abbrev NPut : List Str := ["term", "binding", "found", "exchanged"]
theorem scPut : FnScope NPut ["term", "binding"] (defScope sPut) := ⟨rfl, rfl, rfl, by decide +kernel, rfl, by decide +kernel, by decide +kernel⟩
theorem ok_put {f fF c Pt : Addr} {fd dF : FuncData} (F : Fun K "put" "put" sPut f fd) (hc : fd.code = .ref c) (TB : TabB base mg c Pt)
    (GF : ∀ (g c : Addr) (cl : List (Str × Addr)) (ws : List (Option V)), QnOk P w K mg base 3 fF dF ["term", "made_of"] (Held1 cl ["found"] ws) (spFoldE g c cl ws)) (kF : PySem.W.keepIn K (.ref fF) = true) (bF : Binds K dF ["term", "made_of"] []) (mF : mg "fold" = some (.ref fF))
    (mDict : mg "dict" = none) : FnOk P w K mg base CX0 4 f fd ["term", "binding"] (spPut [(Pt, nmEx)]) := by
  refine okC F hc scPut (fun vs H Q E h => ?_) (fun A outer s H vs Q E hr h => ?_)
  · obtain ⟨v, t, a, bd, rfl, _⟩ := h
    rfl
  obtain ⟨v, t, a, bd, rfl, T, sz, B, hT, q⟩ := h
  have nb : ndefB (defScope sPut) (C8.fnScope sEx) ["found"] = true := by decide +kernel
  refine ⟨_, pss_cons (ps_set (i := 2) scPut.nd rfl (Or.inr rfl) (pe_callTy (cr_dictT rfl) rfl mDict (by decide +kernel) (pa_cons (pv 1) pa_nil)))
    (pss_cons (ps_ndefMS (st := sEx) (T := [(Pt, nmEx)]) (nm := nmEx) (c := c) (P := Pt) (i := 3) rfl TB rfl (List.mem_singleton.mpr rfl) (by rfl) (fun p hp _ => by rw [List.mem_singleton.mp hp]) (ndef_free (sc := defScope sPut) nb) rfl rfl rfl scPut.nd rfl (Or.inl rfl) (.inl rfl))
    (pss_one (ps_ret (pe_callQ (fr := ["found"]) (js := [2]) (fun g c' ws => GF g c' _ ws) (fun ok => Caps.made (scope := C8.fnScope sEx) ok (ndef_free (sc := defScope sPut) nb) (ndef_fr (sc := defScope sPut) nb) rfl) ⟨rfl, rfl⟩ (fun _ => rfl) hr rfl mF kF bF (pa_cons (pv 0) (pa_cons (pv 3) pa_nil)))))), ?_⟩
  obtain ⟨ps, hp, pr, nd, bz⟩ := B
  obtain ⟨kvs, h1, h2⟩ := pairs_of (K := K) pr
  refine ⟨_, rfl, a, ps, kvs, rfl, hp, h1, fun D hD => ?_⟩
  have s1 := same_new hD (.dK (mergeK [] kvs))
  have DB := dict_of h2 nd
  refine ⟨hT.ext s1, fun g c' H1 e1 nn1 T1 hg hg1 hc1 => ?_⟩
  have u1 : Tups H H1 := (Tups.same s1).trans (Tups.ext e1)
  have hD1 := e1 _ _ (upd_same : (upd H D (.dK (mergeK [] kvs))) D = some (.dK (mergeK [] kvs))) (fun _ z => by cases z)
  refine ⟨_, rfl, _, rfl, g, c', v, t, D, bd, _, rfl, rfl, T.mono u1.1, sz, hg1, hc1, hD1, DB.mono u1.1, fun v' H' T' s' => q v' H' T' ?_⟩
  exact (Ext.same hT s1).trans ((⟨e1, T1, nn1⟩ : Ext _ _ _).trans (Ext.same T1 s'))
end
end Rp

/-! sorted(d) of a dict whose keys are ints. -/
namespace Rp
open PySem PySem.Spec PyProof.Rows L2
theorem int_keys_at : ∀ {us : List Value} {ks : List Int}, us.length = ks.length → (∀ (j : Nat) (v : Value), us[j]? = some v → ∃ (x : Int) (t : Tok), ks[j]? = some x ∧ v = Value.int x t) → IntsAre us ks
  | [], [], _, _ => .nil
  | u :: us, k :: ks, hl, h => by
    obtain ⟨x, t, e1, rfl⟩ := h 0 u rfl
    obtain rfl : k = x := Option.some.inj e1
    refine .cons _ t (int_keys_at (by simpa using hl) fun j v e => ?_)
    obtain ⟨num, tok, at1, is1⟩ := h (j + 1) v (by simpa using e)
    exact ⟨num, tok, by simpa using at1, is1⟩
  | [], _ :: _, long, _ => by simp at long
  | _ :: _, [], long, _ => by simp at long
section
variable {X : Cx}
theorem cr_sortedDI (calm : X.calm = true) : CallR X (.builtin "sorted") (fun xs H Q => ∃ (a : Addr) (kvs : List (Key × V)) (ks : List Int), xs = [.ref a] ∧ Rd H a (.dK kvs) ∧ kvs.map (·.1) = ks.map Sum.inl ∧ ks.length < 64 ∧
    ∀ (ns : List Int) (p : Addr), ns.Perm ks → ns.Pairwise (· ≤ ·) → H p = none → Q (.ref p) (upd H p (.lst (ns.map V.int)))) := by
  intro pins s σ H xs us Q I r told
  obtain ⟨a, kvs, ks, rfl, hd, keysAre, few, go⟩ := told
  obtain ⟨u, rfl, rx⟩ := vals1 r
  cases rx
  obtain ⟨z, lo, vs, rel, dd⟩ := dk_rd I.hok hd
  obtain ⟨ep, at_⟩ := dd.dictAt
  have keyList : vs.map (·.1) = ks.map Sum.inl := rel.keys.symm.trans keysAre
  have long : vs.length = ks.length := by have e := congrArg List.length keyList; rw [List.length_map, List.length_map] at e; exact e
  have room : vs.length ≤ sizeLine := by rw [long, sizeLine_eq]; omega
  refine Calls.call_function_entry PyProof.Rows.kind_sorted PyProof.Rows.plain_sorted PyProof.Rows.entry_sorted (PyProof.Rows.args_sorted1 _) ?_; unfold Builtin.«sorted»
  refine wpAny_bind (m := checkCount "sorted" 1 1 _) (wpAny_pure (wpAny_bind (PySem.W.kdu_collect (A := X.A.in1) (PySem.W.kdl_dict (knd := mixKind X.prog X.w) (kvs := vs) (ep := ep) lo) (I.ok.hd calm) at_ room fun h' tk acc old got => ?_)))
  have many : acc.toList.length = ks.length := by rw [Array.length_toList, got.1, long]
  have numsAre : IntsAre acc.toList ks := int_keys_at many fun j v e => by
    obtain ⟨k, x, e1, e2⟩ := got.2 j v (by rw [← Array.getElem?_toList]; exact e)
    have keyAt : (vs.map (·.1))[j]? = some k := by rw [List.getElem?_map, e1]; rfl
    rw [keyList, List.getElem?_map] at keyAt
    cases look : ks[j]? with
    | none => rw [look] at keyAt; cases keyAt
    | some y =>
      rw [look] at keyAt
      obtain rfl : Sum.inl y = k := Option.some.inj keyAt
      rcases keyIs_shape (show keyIs (Sum.inl y) v = true from e2) with ⟨i, t, ek, ev⟩ | ⟨z, t, ek, ev⟩
      · cases ek; exact ⟨y, t, rfl, ev⟩
      · cases ek
  have J : Inv X pins σ H { s with heap := h', toks := tk } := I.kept old
  refine wpAny_bind (wpAny_newList ?_ (by rw [many, sizeLine_eq]; omega))
  have made : (h'.push (seqObj "list" acc.toList.toArray 0)).get? h'.objs.size = some (seqObj "list" acc.toList.toArray 0) := Heap.get?_push_size _ rfl
  show wpAny _ _ _ _ _ { s with heap := h'.push (seqObj "list" acc.toList.toArray 0), toks := tk }
  refine wpAny_bind (wpAny_holding (wpAny_call_entry PyProof.Rows.slot_list_sort ⟨_, made, rfl⟩ PyProof.Rows.entry_list_sort
    (SrtO.list_sort_ord (s := { s with heap := h'.push (seqObj "list" acc.toList.toArray 0), toks := tk }) SrtO.swo_int made (by rw [many, sizeLine_eq]; omega) (fun h2 => SrtO.ints_sortable numsAre h2) fun out o1 o2 => ⟨_, rfl, ?_⟩) (PyProof.Rows.args_list_sort _)))
  obtain ⟨k1, k2, k3⟩ := SrtO.ints_out numsAre o1 o2
  obtain ⟨ep', he'⟩ := PyProof.Rows.sortedHeap_at (vs := acc.toList) (out := out.toArray) made
  have fits : ((out.map SrtO.iv).map V.int).length ≤ sizeLine := by rw [List.length_map, k2.length_eq]; exact Nat.le_trans (Nat.le_of_lt few) (by decide)
  refine wpAny_pure ⟨_, rfl, .ref h'.objs.size, upd H h'.objs.size (.lst ((out.map SrtO.iv).map V.int)), J.laid (t' := tk) (fun b u e => ?_) (Nat.le_refl _) ⟨fits, out, ep', vals_of_ints k1, he'⟩, rfl, go _ _ k2 k3 (J.hok.fresh (Nat.le_refl _))⟩
  have lt := Heap.lt_size e
  rw [PyProof.Rows.sortedHeap_old (Nat.ne_of_lt lt) (by rw [size_push']; exact Nat.lt_succ_of_lt lt)]
  exact Heap.get?_push_of_some _ e
end
end Rp

set_option maxHeartbeats 8000000
/-! The law's variables, its BINDINGs. -/
namespace Rp
open PySem PySem.Spec PyProof.Rows L2 TL
def spFresh1 : Sp := fun vs H Q _ => ∃ (b : Addr) (j : Nat), vs = [.ref b] ∧ BoxAt H b j ∧ j + 9 ≤ 1000000 ∧
  ∀ (p : Addr) (ns : List Int) (H' : Hp), H p = none → H' p = some (.lst (ns.map V.int)) → (∀ m ∈ ns, 0 ≤ m ∧ m ≤ 99) → ns.length ≤ 4 → 0 < ns.length → BoxAt H' b (j + 9) → But b H H' → Q (.ref p) H'
section
variable {P : Program} {w : World} {K : PySem.W.Frag} {mg : Str → Option Value} {base : Heap}
theorem ok_fresh1 {f fT : Addr} {fd fdT : FuncData} (F : Fun K "_law_fresh" "_law_fresh" sFresh f fd) (FT : Fun K "_law_take" "_law_take" sTake fT fdT) (bT : Binds K fdT ["_law_box_here", "_law_count"] []) (mT : mg "_law_take" = some (.ref fT))
    (mRange : mg "range" = none) (mInt : mg "int" = none) : FnOk P w K mg base CX0 2 f fd ["_law_box_here"] spFresh1 := by
  have GT : FnOk P w K mg base CX0 1 fT fdT ["_law_box_here", "_law_count"] spTake := ok_take FT
  refine F.ok scFresh (fun vs H Q E h => ?_) (fun cdv A outer s H vs Q E hr h => ?_)
  · obtain ⟨b, j, rfl, _⟩ := h
    rfl
  obtain ⟨b, j, rfl, B, hj, q⟩ := h
  refine ⟨_, pss_cons (ps_set (i := 1) scFresh.nd rfl (Or.inl rfl) (pe_lst pa_nil))
    (pss_cons (ps_for PassesOwn.never rfl (pi_range1 rfl mRange (pa_cons (pe_op op_add pe_int (pe_call GT hr rfl mT FT.kp bT .nil pass0 (pa_cons (pv 0) (pa_cons pe_int pa_nil)))) pa_nil)) (pg_name (i := 2) scFresh.nd rfl (Or.inl rfl))
      (pss_cons (ps_set (i := 3) scFresh.nd rfl (Or.inl rfl) (pe_ix ix_list (pe_lst (pa_cons (pv 2) (pa_cons (pe_call GT hr rfl mT FT.kp bT .nil pass0 (pa_cons (pv 0) (pa_cons pe_int pa_nil))) (pa_cons (pe_op op_sub pe_int (pv 2)) pa_nil))))
          (pe_call GT hr rfl mT FT.kp bT .nil pass0 (pa_cons (pv 0) (pa_cons pe_int pa_nil))) (fun _ _ => rfl)))
      (pss_one (ps_set (i := 1) scFresh.nd rfl (Or.inl rfl) (pe_op op_cat (pv 1) (pe_op op_rep (pe_lst (pa_cons (pv 3) pa_nil)) (pe_callTy call_int1 (by rfl) mInt (by decide +kernel) (pa_cons (pe_cmpR op_notIn_seq (pv 3) (pv 1) (by rfl)) pa_nil))))))))
    (pss_one (ps_ret (pv 1)))), ?_⟩
  refine ⟨(by show 0 ≤ sizeLine; decide), fun p0 hp0 => ?_⟩
  have s0 := same_new hp0 (.lst [])
  refine ⟨_, rfl, b, _, j, rfl, B.same s0, by omega, by decide, by decide, fun r H1 r0 r4 B1 o1 => ?_⟩
  obtain ⟨ys, hb⟩ := B.some
  have pb : p0 ≠ b := fun e => by subst e; rw [hb] at hp0; cases hp0
  refine ⟨_, _, rfl, rfl, _, rfl, by omega, by omega, for_range (lo := 0) (n := (1 + r).toNat) (fun i σ H2 => ∃ (p : Addr) (ns : List Int) (tv nv : Option V), σ = [some (.ref b), some (.ref p), tv, nv] ∧ H p = none ∧ p ≠ b ∧ H2 p = some (.lst (ns.map V.int)) ∧
      (∀ m ∈ ns, 0 ≤ m ∧ m ≤ 99) ∧ ns.length ≤ i ∧ (0 < i → 0 < ns.length) ∧ BoxAt H2 b (j + 1 + 2 * i) ∧ But b H H2) ⟨p0, [], none, none, rfl, hp0, pb, o1 _ _ upd_same pb, (by simp), Nat.le_refl _, (fun h => absurd h (by omega)), B1, (but_of s0).trans o1⟩ ?_ ?_⟩
  · rintro i σ H2 hi ⟨p, ns, tv, nv, rfl, hpn, pb', hp, hm, hl, pos, B2, o2⟩
    refine ⟨_, rfl, _, rfl, b, _, _, rfl, B2, by omega, by decide, by decide, fun r1 H3 a0 a1 B3 o3 => ?_⟩
    refine ⟨_, rfl, _, _, rfl, rfl, (by show 3 ≤ sizeLine; decide), fun d hd => ?_⟩
    have s4 := same_new hd (.lst [V.int (0 + (i : Int)), V.int r1, V.int (99 - (0 + (i : Int)))])
    refine ⟨_, rfl, b, _, _, rfl, B3.same s4, by omega, by decide, by decide, fun r2 H5 c0 c1 B5 o5 => ?_⟩
    obtain ⟨ys3, hb3⟩ := B3.some
    have db : d ≠ b := fun e => by subst e; rw [hb3] at hd; cases hd
    have hd5 := o5 _ _ upd_same db
    have hp5 := o5 _ _ (s4 _ _ (o3 _ _ hp pb')) pb'
    obtain ⟨num, hat, hnum⟩ : ∃ num : Int, atI [V.int (0 + (i : Int)), V.int r1, V.int (99 - (0 + (i : Int)))] r2 = some (.int num) ∧ 0 ≤ num ∧ num ≤ 99 := by
      rcases (by omega : r2 = 0 ∨ r2 = 1 ∨ r2 = 2) with e | e | e <;> subst e
      · exact ⟨_, at_of (j := 0) rfl rfl, by omega, by omega⟩
      · exact ⟨_, at_of (j := 1) rfl rfl, by omega, by omega⟩
      · exact ⟨_, at_of (j := 2) rfl rfl, by omega, by omega⟩
    refine ⟨d, _, _, _, rfl, rfl, .inl (.inl hd5), hat, ?_⟩
    refine ⟨_, rfl, _, rfl, (by show 1 ≤ sizeLine; decide), fun e he => ?_⟩
    have s6 := same_new he (.lst [V.int num])
    have flat : ∀ l : List Int, (l.map V.int).all flatV = true := fun l => by rw [List.all_map]; exact List.all_eq_true.mpr fun _ _ => rfl
    obtain ⟨k, hk⟩ : ∃ k : Bool, (if true = true then !inV (V.int num) (ns.map V.int) else inV (V.int num) (ns.map V.int)) = k := ⟨_, rfl⟩
    refine ⟨_, rfl, _, rfl, p, _, rfl, .inl (.inl (.inl (s6 _ _ hp5))), rfl, flat ns, .inr ⟨k, congrArg (fun z => [V.bl z]) hk, ?_⟩⟩
    have rep : ∃ ms : List Int, (List.replicate (Int.toNat (if k = true then 1 else 0)) [V.int num]).flatten = ms.map V.int ∧ (∀ m ∈ ms, 0 ≤ m ∧ m ≤ 99) ∧ ms.length ≤ 1 := by
      cases k
      · exact ⟨[], rfl, by simp, by decide⟩
      · exact ⟨[num], rfl, by simpa using hnum, by simp⟩
    obtain ⟨ms, ems, hms, lms⟩ := rep
    refine ⟨e, _, _, rfl, rfl, upd_same, by cases k <;> decide, by cases k <;> decide, ?_, fun e2 he2 => ?_⟩
    · have := big1000
      cases k <;> simp <;> omega
    have hne : p ≠ e2 := ne_of_none (s6 _ _ hp5) he2
    have s7 := same_new he2 (.lst (List.replicate (Int.toNat (if k = true then 1 else 0)) [V.int num]).flatten)
    refine ⟨p, e2, ns.map V.int, ms.map V.int, rfl, rfl, s7 _ _ (s6 _ _ hp5), ?_, ?_, fun l hln => ?_⟩
    · rw [← ems]; exact upd_same
    · rw [List.length_map, List.length_map]; have := big1000; omega
    have s8 := same_new hln (.lst (ns.map V.int ++ ms.map V.int))
    have sz := s6.trans (s7.trans s8)
    have oz : But b H _ := o2.trans (o3.trans ((but_of s4).trans (o5.trans (but_of sz))))
    refine ⟨l, ns ++ ms, _, _, rfl, ?_, ?_, ?_, ?_, ?_, ?_, ((B5.same sz).more (by omega)), oz⟩
    · cases z : H l with
      | none => rfl
      | some o =>
        have nlb : l ≠ b := fun e => by
          subst e
          obtain ⟨y5, hb5⟩ := B5.some
          rw [(s6.trans s7) _ _ hb5] at hln
          cases hln
        rw [(o2.trans (o3.trans ((but_of s4).trans (o5.trans (but_of (s6.trans s7)))))) _ _ z nlb] at hln
        cases hln
    · intro e
      subst e
      obtain ⟨y5, hb5⟩ := B5.some
      rw [(s6.trans s7) _ _ hb5] at hln
      cases hln
    · rw [upd_same, List.map_append]
    · intro m h
      rcases List.mem_append.mp h with h | h
      · exact hm m h
      · exact hms m h
    · rw [List.length_append]; omega
    · intro _
      rw [List.length_append]
      rcases Nat.eq_zero_or_pos ns.length with z0 | z0
      · have e0 : ns = [] := List.eq_nil_iff_length_eq_zero.mpr z0
        subst e0
        have hk' : k = true := by
          rw [← hk]
          rfl
        rw [hk'] at ems
        cases ms with
        | nil => simp at ems
        | cons => simp
      · omega
  · rintro σ H2 ⟨p, ns, tv, nv, rfl, hpn, pb', hp, hm, hl, pos, B2, o2⟩
    exact ⟨_, rfl, q p ns H2 hpn hp hm (by omega) (pos (by omega)) (B2.more (by omega)) o2⟩
end
theorem Paired.snoc2 {α β : Type} {R : α → β → Prop} : ∀ {l : List α} {m : List β} {a : α} {b : β}, Paired R l m → R a b → Paired R (l ++ [a]) (m ++ [b])
  | _, _, _, _, .nil, h => .cons h .nil
  | _, _, _, _, .cons h t, g => .cons h (Paired.snoc2 t g)
structure okBd (bd : Bd) : Prop where
  num : ∀ q ∈ bd, 0 ≤ q.1 ∧ q.1 ≤ 99
  sm : ∀ q ∈ bd, q.2.small
  sz : ∀ q ∈ bd, q.2.size ≤ 12
  up : (bd.map (·.1)).Pairwise (· < ·)
  few : bd.length ≤ 6
def spPairs : Sp := fun vs H Q _ => ∃ (b p : Addr) (fs : List Int) (j : Nat) (room : Int), vs = [.ref b, .ref p, .int room] ∧ BoxAt H b j ∧ j + 200 ≤ 1000000 ∧ H p = some (.lst (fs.map V.int)) ∧ p ≠ b ∧ (∀ m ∈ fs, 0 ≤ m ∧ m ≤ 99) ∧ fs.length ≤ 4 ∧ 1 ≤ room ∧ room ≤ 12 ∧
  ∀ (a : Addr) (bd : Bd) (H' : Hp), BdAt H' a bd → okBd bd → BoxAt H' b (j + 200) → But b H H' → Q (.ref a) H'
/-- a dict of small TERMs by their ints -/
structure DcAt (H : Hp) (kvs : List (Key × V)) (ks : List Int) : Prop where
  keys : kvs.map (·.1) = ks.map Sum.inl
  nd : ks.Nodup
  num : ∀ k ∈ ks, 0 ≤ k ∧ k ≤ 99
  val : ∀ k ∈ ks, ∃ v t, valV kvs (Sum.inl k) = some v ∧ TmAt H v t ∧ t.small ∧ t.size ≤ 12
theorem DcAt.mono {H H' : Hp} {kvs : List (Key × V)} {ks : List Int} (e : ∀ a xs, H a = some (.tup xs) → H' a = some (.tup xs)) (D : DcAt H kvs ks) : DcAt H' kvs ks :=
  ⟨D.keys, D.nd, D.num, fun k hk => let ⟨v, t, h1, h2, h3, h4⟩ := D.val k hk; ⟨v, t, h1, h2.mono e, h3, h4⟩⟩
theorem DcAt.put {H : Hp} {kvs : List (Key × V)} {ks : List Int} (D : DcAt H kvs ks) {k : Int} (hk : 0 ≤ k ∧ k ≤ 99) {v : V} {t : Tm} (T : TmAt H v t) (sm : t.small) (sz : t.size ≤ 12) :
    ∃ ks', DcAt H (putK kvs (Sum.inl k) v) ks' ∧ ks'.length ≤ ks.length + 1 := by
  by_cases hm : k ∈ ks
  · refine ⟨ks, ⟨?_, D.nd, D.num, fun j hj => ?_⟩, by omega⟩
    · unfold putK
      have : (kvs.any fun kv => decide (kv.1 = Sum.inl k)) = true := by
        rw [List.any_eq_true]
        have : Sum.inl k ∈ kvs.map (·.1) := by rw [D.keys]; exact List.mem_map_of_mem hm
        obtain ⟨kv, h1, h2⟩ := List.mem_map.mp this
        exact ⟨kv, h1, decide_eq_true h2⟩
      rw [if_pos this, List.map_map, ← D.keys]
      refine List.map_congr_left fun kv _ => ?_
      show (if kv.1 = Sum.inl k then (kv.1, v) else kv).1 = kv.1
      split <;> rfl
    · rw [valV_put]
      by_cases e : j = k
      · subst e; rw [if_pos rfl]; exact ⟨v, t, rfl, T, sm, sz⟩
      · rw [if_neg (fun z => e (Sum.inl.inj z))]; exact D.val j hj
  · have none_ : ¬ (kvs.any fun kv => decide (kv.1 = Sum.inl k)) = true := fun h => by
      obtain ⟨kv, h1, h2⟩ := List.any_eq_true.mp h
      have h3 : Sum.inl k ∈ kvs.map (·.1) := List.mem_map.mpr ⟨kv, h1, of_decide_eq_true h2⟩
      rw [D.keys] at h3
      obtain ⟨k', h4, h5⟩ := List.mem_map.mp h3
      exact hm (by cases h5; exact h4)
    refine ⟨ks ++ [k], ⟨?_, ?_, fun j hj => ?_, fun j hj => ?_⟩, by simp⟩
    · unfold putK
      rw [if_neg none_, List.map_append, List.map_append, D.keys]
      rfl
    · rw [List.nodup_append]
      exact ⟨D.nd, by simp, fun x hx y hy e => by simp at hy; subst hy; subst e; exact hm hx⟩
    · rcases List.mem_append.mp hj with hj | hj
      · exact D.num j hj
      · simp at hj; subst hj; exact hk
    · rw [valV_put]
      by_cases e : j = k
      · subst e; rw [if_pos rfl]; exact ⟨v, t, rfl, T, sm, sz⟩
      · rw [if_neg (fun z => e (Sum.inl.inj z))]
        rcases List.mem_append.mp hj with hj | hj
        · exact D.val j hj
        · simp at hj; exact absurd hj e
section
variable {P : Program} {w : World} {K : PySem.W.Frag} {mg : Str → Option Value} {base : Heap}
theorem scPairs : FnScope ["_law_box_here", "_law_fresh_here", "_law_room", "_law_found", "_law_variable"] ["_law_box_here", "_law_fresh_here", "_law_room"] (defScope sPairs) := ⟨rfl, rfl, rfl, by decide +kernel, rfl, by decide +kernel, by decide +kernel⟩
theorem ok_pairs {f fT fTr fF : Addr} {fd dT dTr dF : FuncData} (F : Fun K "_law_pairs" "_law_pairs" sPairs f fd)
    (GT : FnOk P w K mg base CX0 1 fT dT ["_law_box_here", "_law_count"] spTake) (kT : PySem.W.keepIn K (.ref fT) = true) (bT : Binds K dT ["_law_box_here", "_law_count"] []) (mT : mg "_law_take" = some (.ref fT))
    (GTr : FnOk P w K mg base CX0 66 fTr dTr ["_law_box_here", "_law_room", "_law_fresh_here"] (spTree 64)) (kTr : PySem.W.keepIn K (.ref fTr) = true) (bTr : Binds K dTr ["_law_box_here", "_law_room", "_law_fresh_here"] []) (mTr : mg "_law_tree" = some (.ref fTr))
    (GF : FnOk P w K mg base CX0 2 fF dF ["_law_box_here"] spFresh1) (kF : PySem.W.keepIn K (.ref fF) = true) (bF : Binds K dF ["_law_box_here"] []) (mF : mg "_law_fresh" = some (.ref fF))
    (mList : mg "list" = none) (mSorted : mg "sorted" = none) (mTuple : mg "tuple" = none) : FnOk P w K mg base CX0 67 f fd ["_law_box_here", "_law_fresh_here", "_law_room"] spPairs := by
  refine F.ok scPairs (fun vs H Q E h => ?_) (fun cdv A outer s H vs Q E hr h => ?_)
  · obtain ⟨b, p, fs, j, room, rfl, _⟩ := h
    rfl
  obtain ⟨b, p, fs, j, room, rfl, B, hj, hp, pb, fm, fl, r1, r2, q⟩ := h
  have h1 : Room 1 _ := hr.mono (by decide)
  have h2 : Room 2 _ := hr.mono (by decide)
  refine ⟨_, pss_cons (ps_set (i := 3) scPairs.nd rfl (Or.inr rfl) pe_dnewK)
    (pss_cons (ps_for PassesOwn.never rfl (pi_list (pe_op op_cat (pe_callTy call_list_of (by rfl) mList (by decide +kernel) (pa_cons (pv 1) pa_nil)) (pe_lst (pa_cons (pe_call GT h1 rfl mT kT bT .nil pass0 (pa_cons (pv 0) (pa_cons pe_int pa_nil))) pa_nil)))) (pg_name (i := 4) scPairs.nd rfl (Or.inl rfl))
      (pss_one (ps_if (pt_cmpR op_gt (pe_call GT h1 rfl mT kT bT .nil pass0 (pa_cons (pv 0) (pa_cons pe_int pa_nil))) pe_int (nomark _))
        (pss_one (ps_dput (hu_of hr) (pv 3) (pv 4) (pe_call GTr hr rfl mTr kTr bTr .nil pass0 (pa_cons (pv 0) (pa_cons (pe_op op_add pe_int (pe_call GT h1 rfl mT kT bT .nil pass0 (pa_cons (pv 0) (pa_cons (pv 2) pa_nil))))
          (pa_cons (pe_call GF h2 rfl mF kF bF .nil pass0 (pa_cons (pv 0) pa_nil)) pa_nil)))) rfl)) pss_nil)))
    (pss_one (ps_ret (pe_callTy cr_tupF (by rfl) mTuple (by decide +kernel) (pa_cons (pe_lc (own := [("_law_variable", 4)]) (g := gName 4) (tt := tYes) (te := tTup (tCons (tVar 4) (tCons (tDGet (tVar 3) (tVar 4)) tNil))) rfl scPairs.nd
        (pi_list (pe_callB (cr_sortedDI rfl) (by rfl) mSorted (by decide +kernel) (pa_cons (pv 3) pa_nil))) (blkOk_by (N := ["_law_box_here", "_law_fresh_here", "_law_room", "_law_found", "_law_variable"]) (sc := defScope sPairs) (by decide +kernel)) (fun _ _ _ _ _ => pg_name (i := 4) scPairs.nd rfl (Or.inl rfl))
        (fun _ _ _ _ _ => pts_nil) (fun _ _ _ _ _ => pe_tup (pa_cons (pv 4) (pa_cons (pe_dget (hu_of hr) (pv 3) (pv 4) (fun _ _ => rfl)) pa_nil)))) pa_nil))))), ?_⟩
  obtain ⟨ys, hb⟩ := B.some
  refine fun d hd => ?_
  have s1 := same_new hd (.dK [])
  have db : d ≠ b := (ne_of_none hb hd).symm
  refine ⟨_, rfl, p, _, rfl, .inl (.inl (.inl (s1 _ _ hp))), fun l hl => ?_⟩
  have s2 := same_new hl (.lst (fs.map V.int))
  refine ⟨_, rfl, b, _, j, rfl, (B.same s1).same s2, by omega, by decide, by decide, fun x H1 x0 x1 B1 o1 => ?_⟩
  obtain ⟨ys1, hb1⟩ := B1.some
  refine ⟨(by show 1 ≤ sizeLine; decide), fun l2 hl2 => ?_⟩
  have s3 := same_new hl2 (.lst [V.int x])
  have lb : l ≠ b := (ne_of_none (s1 _ _ hb) hl).symm
  have hl1 := o1 _ _ upd_same lb
  have l12 : l ≠ l2 := ne_of_none hl1 hl2
  refine ⟨l, l2, _, _, rfl, rfl, s3 _ _ hl1, upd_same, ?_, fun l3 hl3 => ?_⟩
  · have := big1000; rw [List.length_map, List.length_singleton]; omega
  have s4 := same_new hl3 (.lst (fs.map V.int ++ [V.int x]))
  have B3 := (B1.same s3).same s4
  have l3b : l3 ≠ b := (ne_of_none (s3 _ _ hb1) hl3).symm
  have hd3 := s4 _ _ (s3 _ _ (o1 _ _ (s2 _ _ (upd_same : (upd H d (.dK [])) d = some (.dK []))) db))
  have l3d : l3 ≠ d := (ne_of_none (s3 _ _ (o1 _ _ (s2 _ _ (upd_same : (upd H d (.dK [])) d = some (.dK []))) db)) hl3).symm
  have oA : But b H _ := (but_of (s1.trans s2)).trans (o1.trans (but_of (s3.trans s4)))
  have exs : fs.map V.int ++ [V.int x] = (fs ++ [x]).map V.int := by simp
  have hl33 : (upd (upd H1 l2 (.lst [V.int x])) l3 (.lst (fs.map V.int ++ [V.int x]))) l3 = some (.lst ((fs ++ [x]).map V.int)) := by rw [upd_same, exs]
  have fx : ∀ m ∈ fs ++ [x], 0 ≤ m ∧ m ≤ 99 := fun m hm => by
    rcases List.mem_append.mp hm with hm | hm
    · exact fm m hm
    · simp at hm; omega
  have flx : (fs ++ [x]).length ≤ 5 := by rw [List.length_append, List.length_singleton]; omega
  refine ⟨l3, rfl, ⟨_, .inl (.inl hl33)⟩, for_list (K := K) (a := l3) (xs := (fs ++ [x]).map V.int) (fun i σ H2 => ∃ (x4 : Option V) (kvs : List (Key × V)) (ks : List Int), σ = [some (.ref b), some (.ref p), some (.int room), some (.ref d), x4] ∧ H2 d = some (.dK kvs) ∧ DcAt H2 kvs ks ∧ ks.length ≤ i ∧
      BoxAt H2 b (j + 1 + 30 * i) ∧ But b H H2 ∧ H2 l3 = some (.lst ((fs ++ [x]).map V.int))) ⟨none, [], [], rfl, hd3, ⟨rfl, by simp, by simp, by simp⟩, Nat.le_refl _, B3, oA, hl33⟩ (fun i σ H2 _ ⟨_, _, _, _, _, _, _, _, _, h⟩ => .inl (.inl h)) ?_ ?_⟩
  · rintro i y σ H2 hi ⟨x4, kvs, ks, rfl, hd2, D2, kl, B2, o2, hl2'⟩
    have li : i < ((fs ++ [x]).map V.int).length := (List.getElem?_eq_some_iff.mp hi).1
    rw [List.length_map] at li
    obtain ⟨k, hk, rfl⟩ : ∃ k, (fs ++ [x])[i]? = some k ∧ y = .int k := by
      rw [List.getElem?_map] at hi
      cases hq : (fs ++ [x])[i]? with
      | none => rw [hq] at hi; cases hi
      | some k => rw [hq] at hi; exact ⟨k, rfl, by simpa using hi.symm⟩
    have hkn := fx k (List.mem_of_getElem? hk)
    obtain ⟨ys2, hb2⟩ := B2.some
    have keepB : ∀ {HA HB : Hp} {zs : List V}, But b HA HB → HA b = some (.lst zs) → ∀ a xs, HA a = some (.tup xs) → HB a = some (.tup xs) := fun o hz a xs z => o a _ z (ne_of z hz (by intro e; cases e))
    refine ⟨_, rfl, b, _, _, rfl, B2, by omega, by decide, by decide, fun c H3 c0 c1 B3' o3 => ?_⟩
    refine ⟨_, _, rfl, rfl, _, rfl, ?_⟩
    refine ite2 (fun _ => ?_) (fun _ => ?_)
    · obtain ⟨ys3, hb3⟩ := B3'.some
      refine ⟨_, rfl, _, rfl, _, rfl, b, room, _, rfl, B3', by omega, by omega, by omega, fun r H4 r0 r1' B4 o4 => ?_⟩
      refine ⟨_, _, rfl, rfl, _, rfl, b, _, rfl, B4, by omega, fun g gs H5 hg h5 gm gl _ B5 o5 => ?_⟩
      obtain ⟨ys4, hb4⟩ := B4.some
      obtain ⟨ys5, hb5⟩ := B5.some
      have gb : g ≠ b := fun e => by subst e; rw [hb4] at hg; cases hg
      refine ⟨b, g, gs, _, _, rfl, B5, by omega, h5, gb, by omega, by omega, by omega, fun v t H6 T zt tn B6 o6 => ?_⟩
      have o26 : But b H2 H6 := o3.trans (o4.trans (o5.trans o6))
      have hd6 := o26 _ _ hd2 db
      have D6 := D2.mono (keepB o26 hb2)
      obtain ⟨ks', D7, kl'⟩ := D6.put (k := k) hkn T (fun m hm => gm m (tn m hm)) (by omega)
      have few6 : kvs.length < sizeLine := by
        have e := congrArg List.length D2.keys
        rw [List.length_map, List.length_map] at e
        have := big1000
        omega
      refine ⟨_, rfl, _, rfl, d, _, rfl, DPut.k (k := Sum.inl k) hd6 few6, ?_⟩
      have hb6 := B6.some
      obtain ⟨ys6, hb6⟩ := hb6
      have keepD : ∀ a xs, H6 a = some (.tup xs) → (upd H6 d (.dK (putK kvs (Sum.inl k) v))) a = some (.tup xs) := fun a xs z => by rw [upd_ne (ne_of z hd6 (by intro e; cases e))]; exact z
      have dNone : H d = none := hd
      refine ⟨_, _, ks', rfl, upd_same, D7.mono keepD, by omega, ?_, ?_, ?_⟩
      · obtain ⟨a1, a2, a3, a4, a5⟩ := (B6.more (by omega : _ ≤ j + 1 + 30 * (i + 1))).ex
        exact ⟨a1, a2, a3, by rw [upd_ne db.symm]; exact a4, a5⟩
      · intro c o z nc
        rw [upd_ne (ne_of_none z dNone)]
        exact o26 c o (o2 c o z nc) nc
      · rw [upd_ne l3d]
        exact o26 _ _ hl2' l3b
    · exact ⟨_, kvs, ks, rfl, o3 _ _ hd2 db, D2.mono (keepB o3 hb2), by omega, B3'.more (by omega), o2.trans o3, o3 _ _ hl2' l3b⟩
  · rintro σ H2 ⟨x4, kvs, ks, rfl, hd2, D2, kl, B2, o2, hl2'⟩
    rw [List.length_map] at kl B2
    refine ⟨_, rfl, d, kvs, ks, rfl, .inl hd2, D2.keys, by omega, fun ns g perm up hg => ?_⟩
    have s5 := same_new hg (.lst (ns.map V.int))
    have nl : ns.length = ks.length := perm.length_eq
    have nnd : ns.Nodup := perm.nodup_iff.mpr D2.nd
    have nup : ns.Pairwise (· < ·) := by
      refine (List.Pairwise.and up nnd).imp fun {a b} h => ?_
      have := h.1
      have := h.2
      omega
    refine ⟨g, rfl, ⟨_, .inl (.inl upd_same)⟩, fun D hD => lc_list (K := K) (a := g) (xs := ns.map V.int) (fun i H3 => ∃ (xs : List Addr) (ps : Bd), H3 D = some (.lst (xs.map V.ref)) ∧ Paired (PrAt H3) xs ps ∧ ps.map (·.1) = ns.take i ∧ (∀ p ∈ ps, p.2.small ∧ p.2.size ≤ 12) ∧ Same (upd H2 g (.lst (ns.map V.int))) H3)
      ⟨[], [], upd_same, .nil, by simp, by simp, same_new hD _⟩ (fun i H3 _ ⟨_, _, _, _, _, _, h⟩ => .inl (.inl (h _ _ upd_same))) ?_ ?_⟩
    · rintro i y H3 hi ⟨xs, ps, h3, A3, em, sm3, s6⟩
      obtain ⟨k, hk, rfl⟩ : ∃ k, ns[i]? = some k ∧ y = .int k := by
        rw [List.getElem?_map] at hi
        cases hq : ns[i]? with
        | none => rw [hq] at hi; cases hi
        | some k => rw [hq] at hi; exact ⟨k, rfl, by simpa using hi.symm⟩
      obtain ⟨v, t, hv, T, tsm, tsz⟩ := D2.val k (perm.mem_iff.mp (List.mem_of_getElem? hk))
      have hd3 := s6 _ _ (s5 _ _ hd2)
      have xl := A3.length
      have pl := congrArg List.length em
      rw [List.length_map, List.length_take] at pl
      refine ⟨rfl, ?_⟩
      refine ⟨_, rfl, _, rfl, _, rfl, d, v, rfl, hv ▸ DGet.k (k := Sum.inl k) hd3, (by show 2 ≤ sizeLine; decide), fun pr hpr => ?_⟩
      have s7 := same_new hpr (.tup [V.int k, v])
      have h37 := s7 _ _ h3
      have keep : ∀ a zs, (upd H3 pr (.tup [V.int k, v])) a = some (.tup zs) → (upd (upd H3 pr (.tup [V.int k, v])) D (.lst (xs.map V.ref ++ [.ref pr]))) a = some (.tup zs) := fun a zs z => by rw [upd_ne (ne_of z h37 (by intro e; cases e))]; exact z
      have T3 : TmAt H3 v t := T.mono fun a zs z => s6 _ _ (s5 _ _ z)
      refine ⟨xs.map V.ref, h37, by rw [List.length_map]; have := big1000; omega, xs ++ [pr], ps ++ [(k, t)], by rw [upd_same, List.map_append]; rfl, ?_, ?_, ?_, ?_⟩
      · exact Paired.snoc2 (L2.Paired.mapP A3 fun _ _ z => z.mono fun a zs z => keep a zs (s7 _ _ z)) ⟨v, keep _ _ upd_same, T3.mono fun a zs z => keep a zs (s7 _ _ z)⟩
      · rw [List.map_append, em, List.take_add_one, hk]; rfl
      · intro p' hp'
        rcases List.mem_append.mp hp' with z | z
        · exact sm3 p' z
        · simp at z; subst z; exact ⟨tsm, tsz⟩
      · intro c o z
        rw [upd_ne (ne_of_none z hD)]
        exact s7 _ _ (s6 _ _ z)
    · rintro H3 ⟨xs, ps, h3, A3, em, sm3, s6⟩
      rw [List.length_map, List.take_of_length_le (Nat.le_refl _)] at em
      refine ⟨D, xs.map V.ref, rfl, .inl (.inl h3), fun a ob od ha => ?_⟩
      have s7 := same_new ha (.frz ob (.tup (xs.map V.ref)))
      have pl := congrArg List.length em
      rw [List.length_map] at pl
      have sB := s5.trans (s6.trans s7)
      refine q a ps _ ⟨xs, ⟨ob, od, upd_same⟩, L2.Paired.mapP A3 fun _ _ z => z.mono (Tups.same s7).1, by rw [em]; exact nnd, by omega⟩ ⟨fun p' hp' => ?_, fun p' hp' => (sm3 p' hp').1, fun p' hp' => (sm3 p' hp').2, by rw [em]; exact nup, by omega⟩ ((B2.same sB).more (by omega)) (o2.trans (but_of sB))
      have : p'.1 ∈ ns := by rw [← em]; exact List.mem_map_of_mem hp'
      exact D2.num _ (perm.mem_iff.mp this)
end
end Rp

/-! Data that repr shows: how large it is. -/
namespace Rp
open PySem PySem.Spec PyProof.Rows L2
structure Gd (n k : Nat) (d : PyData) : Prop where
  lay : d.canLay0 = true
  sh : d.showable = true
  is : d.intsShort 13 = true
  nd : d.hasDict = false
  wt : d.weight + 1 ≤ n
  dp : d.depth ≤ k
structure GdA (n k : Nat) (d : List PyData) : Prop where
  lay : PyData.canLayAll0 d = true
  sh : PyData.showableAll d = true
  is : PyData.intsShortAll 13 d = true
  nd : PyData.hasDictAll d = false
  wt : PyData.weightAll d ≤ n
  dp : PyData.depthAll d ≤ k
theorem Gd.more {n k n' k' : Nat} {d : PyData} (h : Gd n k d) (hn : n ≤ n') (hk : k ≤ k') : Gd n' k' d := ⟨h.lay, h.sh, h.is, h.nd, Nat.le_trans h.wt hn, Nat.le_trans h.dp hk⟩
theorem GdA.more {n k n' k' : Nat} {d : List PyData} (h : GdA n k d) (hn : n ≤ n') (hk : k ≤ k') : GdA n' k' d := ⟨h.lay, h.sh, h.is, h.nd, Nat.le_trans h.wt hn, Nat.le_trans h.dp hk⟩
theorem gda_nil (k : Nat) : GdA 0 k [] := ⟨rfl, rfl, rfl, rfl, by decide, by simp [PyData.depthAll]⟩
theorem GdA.cons {n m k : Nat} {d : PyData} {ds : List PyData} (h : Gd n k d) (h' : GdA m k ds) : GdA (n + m) k (d :: ds) := by
  refine ⟨?_, ?_, ?_, ?_, ?_, ?_⟩
  · simp only [PyData.canLayAll0, h.lay, h'.lay]; rfl
  · simp only [PyData.showableAll, h.sh, h'.sh]; rfl
  · simp only [PyData.intsShortAll, h.is, h'.is]; rfl
  · simp only [PyData.hasDictAll, h.nd, h'.nd]; rfl
  · have := h.wt; have := h'.wt; simp only [PyData.weightAll]; omega
  · have := h.dp; have := h'.dp; simp only [PyData.depthAll]; omega
theorem GdA.tup {n k : Nat} {ds : List PyData} (h : GdA n k ds) : Gd (n + 1) (k + 1) (.tuple ds) := by
  refine ⟨?_, ?_, ?_, ?_, ?_, ?_⟩
  · simp only [PyData.canLay0, h.lay]
  · simp only [PyData.showable, h.sh]
  · simp only [PyData.intsShort, h.is]
  · simp only [PyData.hasDict, h.nd]
  · have := h.wt; simp only [PyData.weight]; omega
  · have := h.dp; simp only [PyData.depth]; omega
theorem gda_map {α : Type} {f : α → PyData} {n k : Nat} : ∀ {l : List α}, (∀ x ∈ l, Gd n k (f x)) → GdA (n * l.length) k (l.map f)
  | [], _ => gda_nil k
  | x :: l, h => by
    have ih := gda_map (l := l) fun y hy => h y (by simp [hy])
    refine ((h x (by simp)).more (Nat.le_refl _) (Nat.le_refl _) |> fun a => GdA.cons a ih).more ?_ (Nat.le_refl _)
    rw [List.length_cons, Nat.mul_add]; omega
theorem gd_int {i : Int} (h : i.natAbs ≤ 9999999999) : Gd 36 1 (.int i) := by
  have lg : i.natAbs.log2 ≤ 34 := by
    by_cases h0 : i.natAbs = 0
    · rw [h0]; decide
    · exact Nat.le_of_lt_succ ((Nat.log2_lt h0).mpr (by omega))
  refine ⟨rfl, ?_, ?_, rfl, ?_, by simp [PyData.depth]⟩
  · simp only [PyData.showable, decide_eq_true_eq]; omega
  · simp only [PyData.intsShort, decide_eq_true_eq]; exact PyData.shown_int_le (by omega)
  · simp only [PyData.weight]; split <;> omega
theorem GdA.lst {n k : Nat} {ds : List PyData} (h : GdA n k ds) : Gd (n + 1) (k + 1) (.list ds) := by
  refine ⟨?_, ?_, ?_, ?_, ?_, ?_⟩
  · simp only [PyData.canLay0, h.lay]
  · simp only [PyData.showable, h.sh]
  · simp only [PyData.intsShort, h.is]
  · simp only [PyData.hasDict, h.nd]
  · have := h.wt; simp only [PyData.weight]; omega
  · have := h.dp; simp only [PyData.depth]; omega
theorem Gd.shown {n k : Nat} {d : PyData} (g : Gd n k d) (hn : n ≤ 1000000) (hk : k ≤ 64) : d.showable = true ∧ d.hasDict = false ∧ d.depth ≤ 64 ∧ d.shown.length ≤ sizeLine := by
  have w := g.wt
  have k := g.dp
  refine ⟨g.sh, g.nd, by omega, Nat.le_trans (shown_le13 ?_ g.is) (by decide)⟩
  unfold PyData.layable0
  rw [g.lay, decide_eq_true (by omega : d.depth ≤ 64), decide_eq_true (by omega : d.weight ≤ 2 ^ 20)]
  rfl
end Rp

set_option maxHeartbeats 8000000
/-! All but one list and the tables stays; what is shown, what is alike; the law's own exchange. -/
namespace Rp
open PySem PySem.Spec PyProof.Rows L2 TL NdefX LamX StX
structure ExtB (T : List NTab) (D : Addr) (H H' : Hp) : Prop where
  ext : ∀ c o, H c = some o → c ≠ D → (∀ ps, o ≠ .tbl ps) → H' c = some o
  tab : TabsN T H'
theorem code_lst {c : Addr} {q : Str} {xs : List V} : CodeO c q ≠ .lst xs := fun z => by unfold CodeO at z; cases z
theorem tabs_but {T : List NTab} {H H' : Hp} {D : Addr} {xs : List V} (t : TabsN T H) (hD : H D = some (.lst xs)) (o : But D H H') : TabsN T H' := fun p hp => by
  obtain ⟨ps, h1, h2, h3⟩ := t p hp
  refine ⟨ps, o _ _ h1 (ne_of h1 hD (by intro z; cases z)), h2, fun pos cv hc => ?_⟩
  obtain ⟨c, e1, e2⟩ := h3 pos cv hc
  exact ⟨c, e1, o _ _ e2 (ne_of e2 hD code_lst)⟩
theorem ExtB.refl {T : List NTab} {D : Addr} {H : Hp} (t : TabsN T H) : ExtB T D H H := ⟨fun _ _ h _ _ => h, t⟩
theorem ExtB.trans {T : List NTab} {D : Addr} {H H1 H2 : Hp} (a : ExtB T D H H1) (b : ExtB T D H1 H2) : ExtB T D H H2 := ⟨fun c o h n m => b.ext c o (a.ext c o h n m) n m, b.tab⟩
theorem Ext.toB {T : List NTab} {D : Addr} {H H' : Hp} (e : Ext T H H') : ExtB T D H H' := ⟨fun c o h _ m => e.ext c o h m, e.tab⟩
theorem ExtB.but {T : List NTab} {D : Addr} {xs : List V} {H H' : Hp} (t : TabsN T H) (hD : H D = some (.lst xs)) (o : But D H H') : ExtB T D H H' := ⟨fun c u h n _ => o c u h n, tabs_but t hD o⟩
theorem ExtB.same {T : List NTab} {D : Addr} {H H' : Hp} (t : TabsN T H) (s : Same H H') : ExtB T D H H' := ⟨fun c u h _ _ => s c u h, t.ext s⟩
theorem ExtB.tups {T : List NTab} {D : Addr} {xs : List V} {H H' : Hp} (e : ExtB T D H H') (hD : H D = some (.lst xs)) : Tups H H' :=
  ⟨fun _ _ h => e.ext _ _ h (ne_of h hD (by intro z; cases z)) (fun _ z => by cases z), fun _ _ _ h => e.ext _ _ h (ne_of h hD (by intro z; cases z)) (fun _ z => by cases z)⟩
theorem ExtB.lst {T : List NTab} {D : Addr} {H H' : Hp} (e : ExtB T D H H') {a : Addr} {xs : List V} (h : H a = some (.lst xs)) (n : a ≠ D) : H' a = some (.lst xs) := e.ext _ _ h n fun _ z => by cases z
theorem gd_str {x : Str} (h : PyData.canLay0 (.str x) = true) (l : x.length ≤ 6) : Gd 7 1 (.str x) :=
  ⟨h, rfl, rfl, rfl, by simp only [PyData.weight]; show x.length + 1 ≤ 7; omega, by simp [PyData.depth]⟩
theorem gd_tm : ∀ t : Tm, t.small → Gd (8 * t.size) (t.deep + 1) (tmD t)
  | .v n, h => by
    have h := h n (by simp [Tm.nums])
    have g := gd_int (i := n) (by omega)
    have lg : n.natAbs.log2 ≤ 6 := by
      by_cases h0 : n.natAbs = 0
      · rw [h0]; decide
      · exact Nat.le_of_lt_succ ((Nat.log2_lt h0).mpr (by show n.natAbs < 2 ^ 7; omega))
    exact ⟨g.lay, g.sh, g.is, g.nd, by simp only [tmD, PyData.weight, Tm.size]; split <;> omega, by simp [tmD, PyData.depth]⟩
  | .z, _ => (((GdA.cons (gd_str (x := "0") (by decide +kernel) (by decide +kernel)) (gda_nil 1)).tup).more (by decide) (by decide) : Gd 8 2 _) |> fun g => ⟨g.lay, g.sh, g.is, g.nd, g.wt, by simp [tmD, PyData.depth, PyData.depthAll]⟩
  | .s t, h => by
    have ih := gd_tm t h
    have a : PyData.canLay0 (.str "s") = true := by decide +kernel
    have l : ("s" : Str).cps.size = 1 := by decide +kernel
    have w := ih.wt
    have dp := ih.dp
    refine ⟨?_, ?_, ?_, ?_, ?_, ?_⟩
    · simp only [tmD, PyData.canLay0, PyData.canLayAll0, Bool.and_true, Bool.and_eq_true]; exact ⟨by simpa [PyData.canLay0] using a, ih.lay⟩
    · simp only [tmD, PyData.showable, PyData.showableAll, ih.sh]; rfl
    · simp only [tmD, PyData.intsShort, PyData.intsShortAll, ih.is]; rfl
    · simp only [tmD, PyData.hasDict, PyData.hasDictAll, ih.nd]; rfl
    · simp only [tmD, PyData.weight, PyData.weightAll, Tm.size, l]; omega
    · simp only [tmD, PyData.depth, PyData.depthAll, Tm.deep]; omega
  | .f t u, h => by
    have ih := gd_tm t fun n hn => h n (by simp [Tm.nums, hn])
    have ih2 := gd_tm u fun n hn => h n (by simp [Tm.nums, hn])
    have a : PyData.canLay0 (.str "f") = true := by decide +kernel
    have l : ("f" : Str).cps.size = 1 := by decide +kernel
    have w := ih.wt
    have dp := ih.dp
    have w2 := ih2.wt
    have dp2 := ih2.dp
    refine ⟨?_, ?_, ?_, ?_, ?_, ?_⟩
    · simp only [tmD, PyData.canLay0, PyData.canLayAll0, Bool.and_true, Bool.and_eq_true]; exact ⟨by simpa [PyData.canLay0] using a, ih.lay, ih2.lay⟩
    · simp only [tmD, PyData.showable, PyData.showableAll, ih.sh, ih2.sh]; rfl
    · simp only [tmD, PyData.intsShort, PyData.intsShortAll, ih.is, ih2.is]; rfl
    · simp only [tmD, PyData.hasDict, PyData.hasDictAll, ih.nd, ih2.nd]; rfl
    · simp only [tmD, PyData.weight, PyData.weightAll, Tm.size, l]; omega
    · simp only [tmD, PyData.depth, PyData.depthAll, Tm.deep]; omega
theorem alike_plain {H : Hp} {n : Nat} {x : V} (p : Plain x) : Alike H n x x := by
  cases n with
  | zero => unfold Alike; exact ⟨p, rfl⟩
  | succ n => unfold Alike; exact .inl ⟨p, rfl⟩
theorem alike_tm {H : Hp} : ∀ {t : Tm} {n : Nat} {x y : V}, TmAt H x t → TmAt H y t → t.deep < n → Alike H n x y
  | .v m, n, _, _, .v _, .v _, _ => alike_plain trivial
  | .z, n + 1, _, _, .z h, .z h', _ => by
    unfold Alike
    refine .inr ⟨_, _, _, _, rfl, rfl, .inr ⟨h, h'⟩, rfl, by simp, fun i u v h1 h2 => ?_⟩
    obtain rfl : u = v := Option.some.inj (h1.symm.trans h2)
    match i with
    | 0 => simp at h1; subst h1; exact alike_plain trivial
    | i + 1 => simp at h1
  | .s t, n + 1, _, _, .s h q, .s h' q', hd => by
    unfold Alike
    refine .inr ⟨_, _, _, _, rfl, rfl, .inr ⟨h, h'⟩, rfl, by simp, fun i u v h1 h2 => ?_⟩
    match i with
    | 0 => simp at h1 h2; subst h1 h2; exact alike_plain trivial
    | 1 => simp at h1 h2; subst h1 h2; exact alike_tm q q' (by simp only [Tm.deep] at hd; omega)
    | i + 2 => simp at h1
  | .f l r, n + 1, _, _, .f h q1 q2, .f h' q1' q2', hd => by
    unfold Alike
    simp only [Tm.deep] at hd
    refine .inr ⟨_, _, _, _, rfl, rfl, .inr ⟨h, h'⟩, rfl, by simp, fun i u v h1 h2 => ?_⟩
    match i with
    | 0 => simp at h1 h2; subst h1 h2; exact alike_plain trivial
    | 1 => simp at h1 h2; subst h1 h2; exact alike_tm q1 q1' (by omega)
    | 2 => simp at h1 h2; subst h1 h2; exact alike_tm q2 q2' (by omega)
    | i + 3 => simp at h1
theorem kids_two (t : Tm) : t.kids.length ≤ 2 := by cases t <;> simp [Tm.kids]
theorem cut_to {xs : List V} (n : Nat) : cutV xs none (some (n : Int)) = xs.take n := by
  unfold cutV
  rw [HT.sIx_none, HT.sIx_nat, List.drop_zero, Nat.sub_zero]
  rcases Nat.le_total n xs.length with h | h
  · rw [Nat.min_eq_left h]
  · rw [Nat.min_eq_right h, List.take_length, List.take_of_length_le h]
theorem cut_one (x : V) (ks : List V) : cutV (x :: ks) none (some 1) = [x] := by
  have := cut_to (xs := x :: ks) 1
  simpa using this
def spLPut (n : Nat) : Sp := fun vs H Q _ => ∃ (v : V) (t : Tm) (a : Addr) (bd : Bd), vs = [v, .ref a] ∧ TmAt H v t ∧ t.deep < n ∧ BdAt H a bd ∧ ∀ (v' : V) (H' : Hp), TmAt H' v' (t.put bd) → Same H H' → Q v' H'
section
variable {P : Program} {w : World} {K : PySem.W.Frag} {mg : Str → Option Value} {base : Heap}
abbrev NXch : List Str := ["_law_term", "_law_pairs_here", "_law_part"]
theorem scXch : FnScope NXch ["_law_term", "_law_pairs_here"] (defScope sPutL) := ⟨rfl, rfl, rfl, by decide +kernel, rfl, by decide +kernel, by decide +kernel⟩
def teXch (n : Nat) : TE := fun σ H Q => tCons (tVar 2) (tCons (tVar 1) tNil) σ H fun vs H1 => spLPut n vs H1 Q E0
theorem ok_lput {n : Nat} {f : Addr} {fd : FuncData} (F : Fun K "_law_put" "_law_put" sPutL f fd) (b2 : Binds K fd ["_law_term", "_law_pairs_here"] []) (mF : mg "_law_put" = some (.ref f)) (G : FnOk P w K mg base CX0 n f fd ["_law_term", "_law_pairs_here"] (spLPut n))
    (mIsi : mg "isinstance" = none) (mInt : mg "int" = none) (mTuple : mg "tuple" = none) (mDict : mg "dict" = none) : FnOk P w K mg base CX0 (n + 1) f fd ["_law_term", "_law_pairs_here"] (spLPut (n + 1)) := by
  refine F.ok scXch (fun vs H Q E h => ?_) (fun cdv A outer s H vs Q E hr h => ?_)
  · obtain ⟨v, t, a, bd, rfl, _⟩ := h
    rfl
  obtain ⟨v, t, ab, bd, rfl, T, hd, B, q⟩ := h
  have hu := hu_of hr
  refine ⟨_, pss_cons (ps_if (pt_val (pe_callB call_isi (by rfl) mIsi (by decide +kernel) (pa_cons (pv 0) (pa_cons (pe_bltn (v := .ty "int") (by rfl) mInt (by decide +kernel) rfl) pa_nil))))
      (pss_one (ps_ret (pe_dget2 hu (pe_callTy (cr_dictT rfl) (by rfl) mDict (by decide +kernel) (pa_cons (pv 1) pa_nil)) (pv 0) (pv 0) ⟨rfl, rfl, rfl, rfl⟩))) pss_nil)
    (pss_one (ps_ret (pe_op op_catT (pe_slice sl_tupA (pv 0) po_none (po_some pe_int)) (pe_callTy call_tuple_of (by rfl) mTuple (by decide +kernel) (pa_cons
      (pe_lc (own := [("_law_part", 2)]) (g := gName 2) (tt := tYes) (te := teXch n) rfl scXch.nd (pi_tup (pe_slice sl_tup (pv 0) (po_some pe_int) po_none)) (blkOk_by (N := NXch) (sc := defScope sPutL) (by decide +kernel))
        (fun _ _ _ _ _ => pg_name (i := 2) scXch.nd rfl (Or.inl rfl)) (fun _ _ _ _ _ => pts_nil) (fun _ _ _ _ _ => pe_call G hr (by rfl) mF F.kp b2 .nil pass0 (pa_cons (pv 2) (pa_cons (pv 1) pa_nil)))) pa_nil))))), ?_⟩
  have big : (2000 : Nat) ≤ sizeLine := by decide
  rcases T.ty (K := K) with ⟨m, rfl, rfl⟩ | ⟨a, xs, rfl, ha, ty, no⟩
  · refine ⟨_, rfl, _, _, _, _, true, rfl, .ty "int", .base (.int m), kit_ii, true, rfl, iteT ?_⟩
    obtain ⟨ps, hp, pr, nd, bz⟩ := B
    obtain ⟨kvs, h1, h2⟩ := pairs_of (K := K) pr
    refine ⟨_, rfl, ab, ps, kvs, rfl, hp, h1, fun D hD => ?_⟩
    have s1 := same_new hD (.dK (mergeK [] kvs))
    have DB := (dict_of h2 nd).mono (Tups.same s1).1
    have hD1 : (upd H D (.dK (mergeK [] kvs))) D = some (.dK (mergeK [] kvs)) := upd_same
    refine ⟨D, rfl, .inl ⟨_, .inl hD1⟩, _, rfl, _, rfl, ?_⟩
    rcases DB m with ⟨v, t, e1, e2, T'⟩ | ⟨e1, e2⟩
    · refine ⟨some v, .inl ⟨_, Sum.inl m, .inl hD1, rfl, e1.symm⟩, q v _ ?_ s1⟩
      show TmAt _ v ((bd.lookup m).getD (.v m))
      rw [e2]
      exact T'
    · refine ⟨none, .inl ⟨_, Sum.inl m, .inl hD1, rfl, e1.symm⟩, q _ _ ?_ s1⟩
      show TmAt _ (.int m) ((bd.lookup m).getD (.v m))
      rw [e2]
      exact .v m
  · obtain ⟨a', ks, e, ha', hk, hks⟩ := T.tupled no
    cases e
    have k2 := kids_two t
    refine ⟨_, rfl, _, _, _, _, false, rfl, .ty "int", ty, kit_ti, false, rfl, iteF ?_⟩
    refine ⟨_, rfl, 1, rfl, a, _, rfl, .inl (.inl ha'), fun wh => ?_, fun _ a1 h1 => ?_⟩
    · have w2 := wh.2
      have e0 := HT.sIx_nat (V.str (signHead t) :: ks).length (V.str (signHead t) :: ks).length 1
      have kn : ks = [] := by
        rw [show ((1 : Nat) : Int) = 1 from rfl] at e0
        rw [e0, List.length_cons] at w2
        exact List.length_eq_zero_iff.mp (by omega)
      obtain ⟨a1, ea⟩ : ∃ a1, a1 = a := ⟨_, rfl⟩
      obtain ⟨H1, eH⟩ : ∃ H1, H1 = H := ⟨_, rfl⟩
      have ha1 : H1 a1 = some (.tup [V.str (signHead t)]) := by rw [ea, eH, ha', kn]
      have s1 : Same H H1 := by rw [eH]; exact fun _ _ z => z
      rw [← eH]
      show _

      refine ⟨_, rfl, 1, rfl, a, _, rfl, .inl (.inl (s1 _ _ ha')), cut_part _ _, fun g hg => ?_⟩
      rw [cut_tail]
      have s2 := same_new hg (.tup ks)
      have hgg : (upd H1 g (.tup ks)) g = some (.tup ks) := upd_same
      refine ⟨g, rfl, ⟨_, .inl (.inl hgg)⟩, fun D hD => lc_tup (K := K) (a := g) (xs := ks) (fun i H3 => ∃ ys : List V, H3 D = some (.lst ys) ∧ AllAt H3 ys ((t.kids.take i).map (Tm.put bd)) ∧ ys.length = i ∧ Same (upd H1 g (.tup ks)) H3)
        ⟨[], upd_same, trivial, rfl, same_new hD _⟩ (fun i H3 _ ⟨_, _, _, _, s⟩ => .inl (.inl (s _ _ hgg))) ?_ ?_⟩
      · rintro i x H3 hi ⟨ys, h3, A3, yl, s3⟩
        have hil : i < t.kids.length := by rw [← hk]; exact (List.getElem?_eq_some_iff.mp hi).1
        have hki : t.kids[i]? = some t.kids[i] := List.getElem?_eq_getElem hil
        have mem : t.kids[i] ∈ t.kids := List.getElem_mem hil
        have sH : Same H H3 := (s1.trans s2).trans s3
        refine ⟨rfl, ?_⟩
        unfold teXch
        refine ⟨_, rfl, _, rfl, x, t.kids[i], ab, bd, rfl, (hks i x _ hi hki).same sH, by have := kid_deep mem; omega, B.mono (Tups.same sH), fun v' H4 T4 s4 => ?_⟩
        have h4 := s4 _ _ h3
        have u6 : Tups H4 (upd H4 D (.lst (ys ++ [v']))) := Tups.but (but_upd _) h4
        have tk : t.kids.take (i + 1) = t.kids.take i ++ [t.kids[i]] := by rw [List.take_add_one, hki]; rfl
        refine ⟨ys, h4, by omega, ys ++ [v'], upd_same, ?_, by rw [List.length_append, yl]; rfl, fun c o z => by rw [upd_ne (ne_of_none z hD)]; exact s4 _ _ (s3 _ _ z)⟩
        rw [tk, List.map_append]
        exact ((A3.mono (Tups.same s4).1).mono u6.1).append ⟨T4.mono u6.1, trivial⟩
      · rintro H3 ⟨ys, h3, A3, yl, s3⟩
        rw [hk, List.take_length] at A3
        refine ⟨D, ys, rfl, .inl ⟨.inl (.inl h3), fun l hl => ?_⟩⟩
        have s4 := same_new hl (.tup ys)
        have sH1 : Same H1 (upd H3 l (.tup ys)) := (s2.trans s3).trans s4
        have A4 := A3.mono (Tups.same s4).1
        refine ⟨a, l, _, _, rfl, rfl, .inl (.inl (sH1 _ _ (ea ▸ ha1))), .inl (.inl upd_same), by simp, by rw [List.length_singleton, yl]; omega, fun e => ?_, fun e p hp => ?_⟩
        · refine q _ _ ?_ (s1.trans sH1)
          subst e
          cases t with
          | v n => exact absurd rfl (no n)
          | z => exact .z (sH1 _ _ (ea ▸ ha1))
          | s t => exact A4.elim
          | f l r => exact A4.elim
        · have s5 := same_new hp (.tup ([V.str (signHead t)] ++ ys))
          have A5 := A4.mono (Tups.same s5).1
          refine q _ _ ?_ ((s1.trans sH1).trans s5)
          have here : (upd (upd H3 l (.tup ys)) p (.tup ([V.str (signHead t)] ++ ys))) p = some (.tup ([V.str (signHead t)] ++ ys)) := upd_same
          cases t with
          | v n => exact absurd rfl (no n)
          | z =>
            match ys, A5, e with
            | [], _, e => exact absurd rfl e
          | s t =>
            match ys, A5, here with
            | [y], A5, here => exact .s here A5.1
          | f l' r =>
            match ys, A5, here with
            | [y, z], A5, here => exact .f here A5.1 A5.2.1
    · rw [cut_one] at *
      have s1 := same_new h1 (.tup [V.str (signHead t)])
      have ha1 : (upd H a1 (.tup [V.str (signHead t)])) a1 = some (.tup [V.str (signHead t)]) := upd_same
      generalize upd H a1 (.tup [V.str (signHead t)]) = H1 at s1 ha1

      refine ⟨_, rfl, 1, rfl, a, _, rfl, .inl (.inl (s1 _ _ ha')), cut_part _ _, fun g hg => ?_⟩
      rw [cut_tail]
      have s2 := same_new hg (.tup ks)
      have hgg : (upd H1 g (.tup ks)) g = some (.tup ks) := upd_same
      refine ⟨g, rfl, ⟨_, .inl (.inl hgg)⟩, fun D hD => lc_tup (K := K) (a := g) (xs := ks) (fun i H3 => ∃ ys : List V, H3 D = some (.lst ys) ∧ AllAt H3 ys ((t.kids.take i).map (Tm.put bd)) ∧ ys.length = i ∧ Same (upd H1 g (.tup ks)) H3)
        ⟨[], upd_same, trivial, rfl, same_new hD _⟩ (fun i H3 _ ⟨_, _, _, _, s⟩ => .inl (.inl (s _ _ hgg))) ?_ ?_⟩
      · rintro i x H3 hi ⟨ys, h3, A3, yl, s3⟩
        have hil : i < t.kids.length := by rw [← hk]; exact (List.getElem?_eq_some_iff.mp hi).1
        have hki : t.kids[i]? = some t.kids[i] := List.getElem?_eq_getElem hil
        have mem : t.kids[i] ∈ t.kids := List.getElem_mem hil
        have sH : Same H H3 := (s1.trans s2).trans s3
        refine ⟨rfl, ?_⟩
        unfold teXch
        refine ⟨_, rfl, _, rfl, x, t.kids[i], ab, bd, rfl, (hks i x _ hi hki).same sH, by have := kid_deep mem; omega, B.mono (Tups.same sH), fun v' H4 T4 s4 => ?_⟩
        have h4 := s4 _ _ h3
        have u6 : Tups H4 (upd H4 D (.lst (ys ++ [v']))) := Tups.but (but_upd _) h4
        have tk : t.kids.take (i + 1) = t.kids.take i ++ [t.kids[i]] := by rw [List.take_add_one, hki]; rfl
        refine ⟨ys, h4, by omega, ys ++ [v'], upd_same, ?_, by rw [List.length_append, yl]; rfl, fun c o z => by rw [upd_ne (ne_of_none z hD)]; exact s4 _ _ (s3 _ _ z)⟩
        rw [tk, List.map_append]
        exact ((A3.mono (Tups.same s4).1).mono u6.1).append ⟨T4.mono u6.1, trivial⟩
      · rintro H3 ⟨ys, h3, A3, yl, s3⟩
        rw [hk, List.take_length] at A3
        refine ⟨D, ys, rfl, .inl ⟨.inl (.inl h3), fun l hl => ?_⟩⟩
        have s4 := same_new hl (.tup ys)
        have sH1 : Same H1 (upd H3 l (.tup ys)) := (s2.trans s3).trans s4
        have A4 := A3.mono (Tups.same s4).1
        refine ⟨a1, l, _, _, rfl, rfl, .inl (.inl (sH1 _ _ ha1)), .inl (.inl upd_same), by simp, by rw [List.length_singleton, yl]; omega, fun e => ?_, fun e p hp => ?_⟩
        · refine q _ _ ?_ (s1.trans sH1)
          subst e
          cases t with
          | v n => exact absurd rfl (no n)
          | z => exact .z (sH1 _ _ ha1)
          | s t => exact A4.elim
          | f l r => exact A4.elim
        · have s5 := same_new hp (.tup ([V.str (signHead t)] ++ ys))
          have A5 := A4.mono (Tups.same s5).1
          refine q _ _ ?_ ((s1.trans sH1).trans s5)
          have here : (upd (upd H3 l (.tup ys)) p (.tup ([V.str (signHead t)] ++ ys))) p = some (.tup ([V.str (signHead t)] ++ ys)) := upd_same
          cases t with
          | v n => exact absurd rfl (no n)
          | z =>
            match ys, A5, e with
            | [], _, e => exact absurd rfl e
          | s t =>
            match ys, A5, here with
            | [y], A5, here => exact .s here A5.1
          | f l' r =>
            match ys, A5, here with
            | [y, z], A5, here => exact .f here A5.1 A5.2.1
theorem lput_ok {f : Addr} {fd : FuncData} (F : Fun K "_law_put" "_law_put" sPutL f fd) (b2 : Binds K fd ["_law_term", "_law_pairs_here"] []) (mF : mg "_law_put" = some (.ref f)) (mIsi : mg "isinstance" = none) (mInt : mg "int" = none) (mTuple : mg "tuple" = none) (mDict : mg "dict" = none) :
    ∀ n : Nat, FnOk P w K mg base CX0 n f fd ["_law_term", "_law_pairs_here"] (spLPut n)
  | 0 => none_left fun vs H Q E h => by
    obtain ⟨v, t, _, _, _, _, h1, _⟩ := h
    omega
  | n + 1 => ok_lput F b2 mF (lput_ok F b2 mF mIsi mInt mTuple mDict n) mIsi mInt mTuple mDict
end
end Rp

/-! t[::-1] of a tuple. -/
namespace Rp
open PySem PySem.Spec PyProof.Rows L2 HT
section
variable {prog : Program} {w : World} {A : Around} {E : Value → Shared → Prop} {s : Shared}
theorem applied_back {sl : Addr} {vl vu vs : Value} {n : Nat} {Q : Int × Int × Nat → Shared → Prop} (hs : s.heap.IsSliceOf sl vl vu vs) (pl : IsPart vl none) (pu : IsPart vu none) (ps : IsPart vs (some (-1)))
    (h : Q ((n : Int) - 1, -1, n) s) : wpAny (model prog w) A (Builtin.Slice.sliceApplied (.ref sl) (pure (n : Int))) Q E s := by
  obtain ⟨os, at_, _, fields⟩ := id hs
  unfold Builtin.Slice.sliceApplied Builtin.Slice.sliceFields
  refine wpAny_bind (wpAny_bind (wpAny_field at_ fields (x := vl) rfl (wpAny_bind (wpAny_field at_ fields (x := vu) rfl (wpAny_bind (wpAny_field at_ fields (x := vs) rfl (wpAny_pure ?_)))))))
  refine wpAny_bind (slicePart_ ps ?_)
  show wpAny _ _ (if ((-1 : Int) == 0) = true then _ else _) _ _ s
  rw [if_neg (by decide)]
  refine wpAny_bind (slicePart_ pl (wpAny_bind (slicePart_ pu (wpAny_bind (wpAny_pure ?_)))))
  show wpAny _ _ (pure ((n : Int) - 1, (-1 : Int), Builtin.Slice.slicePlaces ((n : Int) - 1) (-1) (-1))) _ _ s
  have many : Builtin.Slice.slicePlaces ((n : Int) - 1) (-1) (-1) = n := by
    unfold Builtin.Slice.slicePlaces
    rw [if_neg (by decide), show (-(-1) : Int) = 1 by decide, Int.ediv_one]
    split <;> omega
  rw [many]
  exact wpAny_pure h
theorem pick_back (xs : Array Value) : ((List.range xs.size).filterMap fun (m : Nat) => xs[(((xs.size : Int) - 1) + (m : Int) * (-1)).toNat]?).toArray = xs.toList.reverse.toArray := by
  have e : (fun (m : Nat) => xs[(((xs.size : Int) - 1) + (m : Int) * (-1)).toNat]?) = (fun k => xs[k]?) ∘ fun m => xs.size - 1 - m := by
    funext m
    have : (((xs.size : Int) - 1) + (m : Int) * (-1)).toNat = xs.size - 1 - m := by omega
    simp only [Function.comp, this]
  rw [e, ← List.filterMap_map, PySem.W.krv_range, List.filterMap_reverse, PySem.W.krv_all]
theorem item_back {t sl : Addr} {items : Array Value} {vl vu vs : Value} {Q : Value → Shared → Prop} (ht : IsTup s.heap t items) (hs : s.heap.IsSliceOf sl vl vu vs) (pl : IsPart vl none) (pu : IsPart vu none) (ps : IsPart vs (some (-1)))
    (h : Q (.ref s.heap.objs.size) { s with heap := s.heap.push { cls := .type "tuple", data := .seq items.toList.reverse.toArray } }) (few : items.size ≤ sizeLine) : wpAny (model prog w) A (getItem (.ref t) (.ref sl)) Q E s := by
  have room : sizeOk (.seq items.toList.reverse.toArray) := by
    show items.toList.reverse.toArray.size ≤ sizeLine
    rw [List.size_toArray, List.length_reverse, Array.length_toList]
    exact few
  obtain ⟨os, at_, isS, fields⟩ := id hs
  have kind : s.TypeIs (.ref sl) "slice" := ⟨os, at_, isS⟩
  unfold getItem
  try with_reducible refine wpAny_holding ?_
  first | refine wpAny_bind (wpAny_pure ?_) | skip
  refine wpAny_bind (wpAny_sequenceKey ht.typeIs (by decide) ?_)
  refine wpAny_bind (wpAny_callSpecial?_slot (name := Str.ofString "__getitem__") ht.typeIs PyProof.Rows.slot_tuple_getitem (wpAny_call_entry PyProof.Rows.slot_tuple_getitem ht.typeIs entry_tuple_getitem ?_ (args_tuple_getitem _ _)))
  show wpAny _ _ (Builtin.Tuple.tupleItemsOf (.ref t) >>= _) _ _ s
  refine wpAny_bind (tupleItemsOf_ ht ?_)
  refine wpAny_bind (wpAny_typeOf kind ?_)
  rw [if_pos (by decide)]
  refine wpAny_bind (applied_back (n := items.size) hs pl pu ps ?_)
  show wpAny _ _ (if ((((items.size : Nat) : Int) - 1) == 0 && (-1 : Int) == 1 && items.size == items.size) = true then _ else _) _ _ s
  have no : ¬ (((((items.size : Nat) : Int) - 1) == 0 && (-1 : Int) == 1 && items.size == items.size) = true) := by
    intro q
    rw [Bool.and_eq_true, Bool.and_eq_true] at q
    exact absurd q.1.2 (by decide)
  rw [if_neg no, pick_back]
  first
    | exact wpAny_bind (m := Builtin.Tuple.tupleExact _) (wpAny_newObj_type (wpAny_pure ⟨_, rfl, wpAny_pure h⟩) room)
    | exact wpAny_bind (m := Builtin.Tuple.tupleExact _) (wpAny_newObj_type (wpAny_bind (wpAny_pure (wpAny_pure ⟨_, rfl, wpAny_pure h⟩))) room)
    | exact wpAny_bind (wpAny_bind (m := Builtin.Tuple.tupleExact _) (wpAny_newObj_type (wpAny_pure (wpAny_pure ⟨_, rfl, wpAny_pure h⟩)) room))
    | exact wpAny_bind (wpAny_bind (m := Builtin.Tuple.tupleExact _) (wpAny_newObj_type (wpAny_pure ⟨_, rfl, wpAny_pure h⟩) room))
end
section
variable {X : Cx}
/-- e[::-1], e a tuple -/
def tRevT (K : PySem.W.Frag) (te : TE) : TE := fun σ H Q => te σ H fun x H1 => ∃ (a : Addr) (xs : List V), x = .ref a ∧ SqT K H1 a xs ∧ ∀ p, H1 p = none → Q (.ref p) (upd H1 p (.tup xs.reverse))
theorem pe_revT {e : Expr} {te : TE} {k : Nat} {p1 p2 p3 pos : Pos} (he : PE X e te) : PE X (.Subscript e (.Slice none none (some (.UnaryOp .USub (.Constant (.int 1) k p1) p2)) p3) pos) (tRevT X.K te) := by
  refine ⟨fun pins s σ H Q I h => ?_⟩
  refine Subscript_ (thn (he.run pins s σ H _ I h) fun v s1 ⟨x, H1, I1, r1, a, xs, ex, hx, q⟩ => ?_)
  subst ex
  cases r1
  have back : PO X (some (.UnaryOp .USub (.Constant (.int 1) k p1) p2)) (tPart (tUn (rU fun i => .int (-i)) (tC (.int 1)))) := po_some (pe_un un_neg pe_int)
  refine wpAny_Slice (thn (po_none.run pins s1 σ H1 (fun o H2 => o = none ∧ H2 = H1) I1 ⟨rfl, rfl⟩) fun vl s2 ⟨l, H2, I2, pl, el, e2⟩ => ?_)
  subst el e2
  refine thn (po_none.run pins s2 σ H2 (fun o H3 => o = none ∧ H3 = H2) I2 ⟨rfl, rfl⟩) fun vu s3 ⟨u, H3, I3, pu, eu, e3⟩ => ?_
  subst eu e3
  refine thn (back.run pins s3 σ H3 (fun o H4 => o = some (-1) ∧ H4 = H3) I3 ⟨1, rfl, -1, rfl, rfl, rfl⟩) fun vs s4 ⟨o, H4, I4, ps, eo, e4⟩ => ?_
  subst eo e4
  obtain ⟨s5, h5⟩ : ∃ s5 : Shared, { s4 with heap := s4.heap.push { cls := .type "slice", data := .fields #[vl, vu, vs] } } = s5 := ⟨_, rfl⟩
  have I5 : Inv X pins σ H4 s5 := by
    rw [← h5]
    exact I4.kept (t' := s4.toks) fun b ob q => Heap.get?_push_of_some _ q
  obtain ⟨its, r, ht, hz⟩ := I5.tuple hx
  have isS : s5.heap.IsSliceOf s4.heap.objs.size vl vu vs := by rw [← h5]; exact Heap.IsSliceOf.new _ vl vu vs
  have len := r.length
  show wpAny (model X.prog X.w) X.A (subscriptTail e (.Slice none none (some (.UnaryOp .USub (.Constant (.int 1) k p1) p2)) p3) (.ref a) (.ref s4.heap.objs.size)) (EP X pins σ Q) X.xe { s4 with heap := s4.heap.push { cls := .type "slice", data := .fields #[vl, vu, vs] } }
  rw [h5]
  refine tail_any (ops := [.ref a, .ref s4.heap.objs.size]) ht.typeIs (PyProof.Rows.slot_tuple_getitem.lookup) ?_ (by with_unfolding_all rfl)
  refine item_back ht isS pl pu ps ?_ (by rw [List.size_toArray]; omega)
  refine ⟨.ref _, _, I5.laid (t' := s5.toks) (o := .tup xs.reverse) (fun b ob q => Heap.get?_push_of_some _ q) (Nat.le_refl _) ?_, rfl, q _ (I5.hok.fresh (Nat.le_refl _))⟩
  exact ⟨by rw [List.length_reverse]; exact hz, _, r.reverse, IsTup.new _ _⟩
end
end Rp

set_option maxHeartbeats 8000000
/-! BINDINGs with a thing otherwise. -/
namespace Rp
open PySem PySem.Spec PyProof.Rows L2 TL NdefX LamX StX
mutual
inductive Lq where
  | non
  | bl (b : Bool)
  | i (n : Int)
  | m (n : Int)
  | s (x : Str)
  | t (l : Lqs)
  | l (l : Lqs)
inductive Lqs where
  | nil
  | cons (a : Lq) (r : Lqs)
end
mutual
def Lq.te : Lq → TE
  | .non => tC .non
  | .bl b => tC (.bl b)
  | .i n => tC (.int n)
  | .m n => tUn (rU fun i => .int (-i)) (tC (.int n))
  | .s x => tC (.str x)
  | .t l => tTup l.ta
  | .l l => tLst l.ta
def Lqs.ta : Lqs → TA
  | .nil => tNil
  | .cons a r => tCons a.te r.ta
end
mutual
def Lq.d : Lq → PyData
  | .non => .none
  | .bl b => .bool b
  | .i n => .int n
  | .m n => .int (-n)
  | .s x => .str x
  | .t l => .tuple l.ds
  | .l l => .list l.ds
def Lqs.ds : Lqs → List PyData
  | .nil => []
  | .cons a r => a.d :: r.ds
end
def Lqs.len : Lqs → Nat
  | .nil => 0
  | .cons _ r => r.len + 1
mutual
def Lq.ok : Lq → Prop
  | .t l => l.len ≤ 1000 ∧ l.ok
  | .l l => l.len ≤ 1000 ∧ l.ok
  | _ => True
def Lqs.ok : Lqs → Prop
  | .nil => True
  | .cons a r => a.ok ∧ r.ok
end
theorem Lqs.ds_len : ∀ l : Lqs, l.ds.length = l.len
  | .nil => rfl
  | .cons _ r => congrArg (· + 1) r.ds_len
mutual
theorem Lq.run {σ : L2.St} {b : Addr} : ∀ (L : Lq) {H : Hp} {Q : V → Hp → Prop}, (∃ ys, H b = some (.lst ys)) → L.ok → (∀ (v : V) (H' : Hp), DAt H' b v L.d → Same H H' → Q v H') → L.te σ H Q
  | .non, H, Q, _, _, q => q _ H (by unfold Lq.d DAt; rfl) (Same.refl H)
  | .bl c, H, Q, _, _, q => q _ H (by unfold Lq.d DAt; rfl) (Same.refl H)
  | .i n, H, Q, _, _, q => q _ H (by unfold Lq.d DAt; rfl) (Same.refl H)
  | .m n, H, Q, _, _, q => ⟨n, rfl, q _ H (by unfold Lq.d DAt; rfl) (Same.refl H)⟩
  | .s x, H, Q, _, _, q => q _ H (by unfold Lq.d DAt; rfl) (Same.refl H)
  | .t l, H, Q, hb, ⟨hl, ho⟩, q => Lqs.run l hb ho fun xs H1 hx s1 => by
    have big : (1000 : Nat) ≤ sizeLine := by decide
    refine ⟨by rw [hx.len, l.ds_len]; exact Nat.le_trans hl big, fun p hp => ?_⟩
    have s2 := same_new hp (.tup xs)
    exact q _ _ (by unfold Lq.d DAt; exact ⟨p, xs, rfl, .inl upd_same, hx.same s2⟩) (s1.trans s2)
  | .l l, H, Q, hb, ⟨hl, ho⟩, q => Lqs.run l hb ho fun xs H1 hx s1 => by
    have big : (1000 : Nat) ≤ sizeLine := by decide
    refine ⟨by rw [hx.len, l.ds_len]; exact Nat.le_trans hl big, fun p hp => ?_⟩
    have s2 := same_new hp (.lst xs)
    obtain ⟨ys, hy⟩ := hb
    exact q _ _ (by unfold Lq.d DAt; exact ⟨p, xs, rfl, (ne_of_none (s1 _ _ hy) hp).symm, upd_same, hx.same s2⟩) (s1.trans s2)
theorem Lqs.run {σ : L2.St} {b : Addr} : ∀ (L : Lqs) {H : Hp} {Q : List V → Hp → Prop}, (∃ ys, H b = some (.lst ys)) → L.ok → (∀ (v : List V) (H' : Hp), DAtAll H' b v L.ds → Same H H' → Q v H') → L.ta σ H Q
  | .nil, H, Q, _, _, q => q _ H (by unfold Lqs.ds; exact DAtAll.nil) (Same.refl H)
  | .cons a r, H, Q, hb, ⟨h1, h2⟩, q => Lq.run a hb h1 fun v H1 hv s1 => Lqs.run r (hb.imp fun ys hy => s1 _ _ hy) h2 fun xs H2 hx s2 =>
    q _ _ (by unfold Lqs.ds; exact DAtAll.cons (hv.same s2) hx) (s1.trans s2)
end
theorem Lq.runE {σ : L2.St} {b : Addr} (L : Lq) (te : TE) (e : L.te = te) {H : Hp} {Q : V → Hp → Prop} (hb : ∃ ys, H b = some (.lst ys)) (h : L.ok) (q : ∀ (v : V) (H' : Hp), DAt H' b v L.d → Same H H' → Q v H') : te σ H Q := e ▸ Lq.run L hb h q
theorem seq_asg {te : TE} {g : TG} {rest : TS} {D : Ends} {σ : L2.St} {H : Hp} (h : te σ H fun v H1 => g v σ H1 fun σ2 H2 => rest D σ2 H2) : tSeq (tAsg te g) rest D σ H := h
abbrev z0 : Lq := .t (.cons (.s "0") .nil)
def moreL : Lq := .l (.cons (.t (.cons (.i 100) (.cons z0 .nil))) (.cons (.t (.cons (.m 1) (.cons (.i 0) .nil))) (.cons (.t (.cons (.i 0) .nil)) (.cons (.t (.cons (.i 0) (.cons (.i 1) (.cons (.i 2) .nil)))) (.cons .non (.cons (.l (.cons (.i 3) (.cons (.i 4) .nil)))
  (.cons (.t (.cons (.bl true) (.cons (.i 0) .nil))) (.cons (.t (.cons (.i 0) (.cons (.bl true) .nil))) (.cons (.t (.cons (.s "x0") (.cons (.i 0) .nil))) (.cons (.t (.cons (.i 1) (.cons (.t (.cons (.s "s") .nil)) .nil))) .nil))))))))))
def prD (q : Int × Tm) : PyData := .tuple [.int q.1, tmD q.2]
def bdD (bd : Bd) : PyData := .tuple (bd.map prD)
/-- a small piece -/
structure Pc (d : PyData) : Prop where
  lay : d.canLay0 = true
  dp : d.depth ≤ 20
  nd : Rp.nd d ≤ 60
theorem rows_ok : ∀ {ds : List PyData}, (∀ d ∈ ds, Pc d) → PyData.canLayAll0 ds = true ∧ PyData.depthAll ds ≤ 20 ∧ ndAll ds ≤ 60 * ds.length
  | [], _ => ⟨rfl, by simp [PyData.depthAll], by simp [ndAll]⟩
  | d :: ds, h => by
    have ih := rows_ok (ds := ds) fun e he => h e (by simp [he])
    have z := h d (by simp)
    have a := z.dp
    have c := z.nd
    simp only [PyData.canLayAll0, PyData.depthAll, ndAll, List.length_cons, z.lay, ih.1, Bool.and_self, true_and]
    omega
theorem row_okT {ds : List PyData} (h : ∀ d ∈ ds, Pc d) (few : ds.length ≤ 15) : okD (.tuple ds) ∧ nd (.tuple ds) ≤ 1000 := by
  obtain ⟨a, b, c⟩ := rows_ok h
  exact ⟨⟨a, by show PyData.depthAll ds + 1 ≤ 60; omega⟩, by simp only [nd]; omega⟩
theorem row_okL {ds : List PyData} (h : ∀ d ∈ ds, Pc d) (few : ds.length ≤ 15) : okD (.list ds) ∧ nd (.list ds) ≤ 1000 := by
  obtain ⟨a, b, c⟩ := rows_ok h
  exact ⟨⟨a, by show PyData.depthAll ds + 1 ≤ 60; omega⟩, by simp only [nd]; omega⟩
theorem pc_pr {q : Int × Tm} (sm : q.2.small) (sz : q.2.size ≤ 12) : Pc (prD q) := by
  have g := gd_tm q.2 sm
  have dl := Tm.deep_lt q.2
  have n := (tm_good (U := q.2.nums) q.2 fun n hn => hn).nd
  refine ⟨?_, ?_, ?_⟩
  · simp only [prD, PyData.canLay0, PyData.canLayAll0, g.lay]; rfl
  · have := g.dp; simp only [prD, PyData.depth, PyData.depthAll]; omega
  · simp only [prD, nd, ndAll]; omega
def moreDs : List PyData := match moreL.d with | .list ds => ds | _ => []
theorem more_pc : ∀ d ∈ moreDs, Pc d := by
  have all : (moreDs.all fun d => d.canLay0 && decide (d.depth ≤ 20) && decide (nd d ≤ 60)) = true := by decide +kernel
  intro d hd
  have := List.all_eq_true.mp all d hd
  simp only [Bool.and_eq_true, decide_eq_true_eq] at this
  exact ⟨this.1.1, this.1.2, this.2⟩
theorem bd_dat {H : Hp} {b : Addr} : ∀ {ps : List Addr} {bd : Bd}, Paired (PrAt H) ps bd → DAtAll H b (ps.map V.ref) (bd.map prD)
  | _, _, .nil => DAtAll.nil
  | _, _, .cons ⟨x, h, T⟩ t => DAtAll.cons (by unfold prD DAt; exact ⟨_, _, rfl, .inl h, DAtAll.cons (by unfold DAt; rfl) (DAtAll.cons T.dat DAtAll.nil)⟩) (bd_dat t)
theorem BdAt.dat {H : Hp} {b a : Addr} {bd : Bd} (h : BdAt H a bd) : ∃ xs : List V, TupAt H a xs ∧ DAtAll H b xs (bd.map prD) :=
  let ⟨ps, ⟨o, _, hp⟩, pr, _, _⟩ := h
  ⟨ps.map V.ref, .inr ⟨o, hp⟩, bd_dat pr⟩
theorem DAtAll.of {H : Hp} {b a : Addr} {xs : List V} {ds : List PyData} (h : TupAt H a xs) (A : DAtAll H b xs ds) : DAt H b (.ref a) (.tuple ds) := by unfold DAt; exact ⟨a, xs, rfl, h, A⟩
/-- t[lo:hi], whole or not -/
theorem slA_ok {K : PySem.W.Frag} {a : Addr} {xs : List V} {lo hi : Option Int} {H : Hp} {Q : VK} (h : TupAt H a xs) (go : ∀ (p : Addr) (H' : Hp), TupAt H' p (cutV xs lo hi) → Same H H' → Q (.ref p) H') : rSlA K (.ref a) lo hi H Q := by
  refine ⟨a, xs, rfl, .inl h, fun hw => ?_, fun _ p hp => go p _ (.inl upd_same) (same_new hp _)⟩
  refine go a H ?_ (Same.refl H)
  have : cutV xs lo hi = xs := by
    unfold cutV
    rw [hw.1, hw.2, List.drop_zero, Nat.sub_zero, List.take_length]
  rw [this]; exact h
theorem slN_ok {K : PySem.W.Frag} {σ : L2.St} {a : Addr} {xs : List V} {lo : Option Int} {H : Hp} {Q : VK} (h : TupAt H a xs) (go : ∀ (p : Addr) (H' : Hp), TupAt H' p (cutV xs lo none) → Same H H' → Q (.ref p) H') : tNoPart σ H fun u H' => rSlA K (.ref a) lo u H' Q := slA_ok h go
theorem catA_ok {K : PySem.W.Frag} {a b : Addr} {xs ys : List V} {H : Hp} {Q : VK} (ha : TupAt H a xs) (hb : TupAt H b ys) (few : xs.length + ys.length ≤ sizeLine) (go : ∀ (p : Addr) (H' : Hp), TupAt H' p (xs ++ ys) → Same H H' → Q (.ref p) H') : rCatA K (.ref a) (.ref b) H Q := by
  refine ⟨a, b, xs, ys, rfl, rfl, .inl ha, .inl hb, few, fun e => ?_, fun _ e => ?_, fun _ _ p hp => go p _ (.inl upd_same) (same_new hp _)⟩
  · subst e; exact go b H hb (Same.refl H)
  · subst e; exact go a H (by rw [List.append_nil]; exact ha) (Same.refl H)
def spOdd : Sp := fun vs H Q _ => ∃ (b ab : Addr) (bd : Bd) (j : Nat), vs = [.ref b, .ref ab] ∧ BoxAt H b j ∧ BdAt H ab bd ∧ okBd bd ∧ j + 4 ≤ 1000000 ∧
  ∀ (v : V) (d : PyData) (H' : Hp), DAt H' b v d → okD d → nd d ≤ 1000 → BoxAt H' b (j + 4) → But b H H' → Q v H'
theorem cut_last {xs : List V} : cutV xs (some (-1)) none = xs.drop (xs.length - 1) := by
  have e : HT.sIx xs.length 0 (some (-1)) = xs.length - 1 := by
    have := HT.clip_eq (-1) xs.length 0
    rw [if_pos (by decide)] at this
    omega
  unfold cutV
  rw [e, HT.sIx_none]
  exact List.take_of_length_le (by rw [List.length_drop]; omega)
section
variable {P : Program} {w : World} {K : PySem.W.Frag} {mg : Str → Option Value} {base : Heap}
abbrev NOd : List Str := ["_law_box_here", "_law_pairs_here", "_law_at", "_law_more", "_law_way"]
theorem scOdd : FnScope NOd ["_law_box_here", "_law_pairs_here"] (defScope sOdd) := ⟨rfl, rfl, rfl, by decide +kernel, rfl, by decide +kernel, by decide +kernel⟩
theorem ok_odd {f fT fPk : Addr} {fd dT dPk : FuncData} (F : Fun K "_law_odd" "_law_odd" sOdd f fd)
    (GT : FnOk P w K mg base CX0 1 fT dT ["_law_box_here", "_law_count"] spTake) (kT : PySem.W.keepIn K (.ref fT) = true) (bT : Binds K dT ["_law_box_here", "_law_count"] []) (mT : mg "_law_take" = some (.ref fT))
    (GPk : FnOk P w K mg base CX0 2 fPk dPk ["_law_box_here", "_law_things"] spPick) (kPk : PySem.W.keepIn K (.ref fPk) = true) (bPk : Binds K dPk ["_law_box_here", "_law_things"] []) (mPk : mg "_law_pick" = some (.ref fPk))
    (mLen : mg "len" = none) (mList : mg "list" = none) : FnOk P w K mg base CX0 3 f fd ["_law_box_here", "_law_pairs_here"] spOdd := by
  refine F.ok scOdd (fun vs H Q E h => ?_) (fun cdv A outer s H vs Q E hr h => ?_)
  · obtain ⟨b, ab, bd, j, rfl, _⟩ := h
    rfl
  obtain ⟨b, ab, bd, j, rfl, B, Bd0, okb, hj, q⟩ := h
  have r1 : Room 1 _ := hr.mono (by decide)
  refine ⟨_, (pss_cons (ps_set (i := 2) scOdd.nd rfl (Or.inl rfl) (pe_call GT r1 (by rfl) mT kT bT .nil pass0 (pa_cons (pv 0) (pa_cons (pe_op op_add (pe_callB call_len_seq (by rfl) mLen PySem.boot_len (pa_cons (pv 1) pa_nil)) pe_int) pa_nil))))
    (pss_cons (ps_set (i := 3) scOdd.nd rfl (Or.inl rfl) (pe_lst (pa_cons (pe_tup (pa_cons pe_int (pa_cons (pe_tup (pa_cons pe_str pa_nil)) pa_nil))) (pa_cons (pe_tup (pa_cons (pe_un un_neg pe_int) (pa_cons pe_int pa_nil))) (pa_cons (pe_tup (pa_cons pe_int pa_nil)) (pa_cons (pe_tup (pa_cons pe_int (pa_cons pe_int (pa_cons pe_int pa_nil)))) (pa_cons pe_non (pa_cons (pe_lst (pa_cons pe_int (pa_cons pe_int pa_nil))) (pa_cons (pe_tup (pa_cons pe_bl (pa_cons pe_int pa_nil))) (pa_cons (pe_tup (pa_cons pe_int (pa_cons pe_bl pa_nil))) (pa_cons (pe_tup (pa_cons pe_str (pa_cons pe_int pa_nil))) (pa_cons (pe_tup (pa_cons pe_int (pa_cons (pe_tup (pa_cons pe_str pa_nil)) pa_nil))) pa_nil))))))))))))
    (pss_cons (ps_set (i := 3) scOdd.nd rfl (Or.inl rfl) (pe_call GPk hr (by rfl) mPk kPk bPk .nil pass0 (pa_cons (pv 0) (pa_cons (pv 3) pa_nil))))
    (pss_cons (ps_set (i := 4) scOdd.nd rfl (Or.inl rfl) (pe_call GT r1 (by rfl) mT kT bT .nil pass0 (pa_cons (pv 0) (pa_cons pe_int pa_nil))))
    (pss_cons (ps_if (PW.pt (pw_and (pt_cmpR op_eq (pv 4) pe_int (nomark _)) (pw_and1 (pt_cmpR op_gt (pe_callB call_len_seq (by rfl) mLen PySem.boot_len (pa_cons (pv 1) pa_nil)) pe_int (nomark _))))) (pss_one (ps_ret (pe_revT (pv 1)))) pss_nil)
    (pss_cons (ps_if (PW.pt (pw_and (pt_cmpR op_eq (pv 4) pe_int (nomark _)) (pw_and1 (pt_cmpR (op_neD hr.units) (pv 1) (pe_tup pa_nil) (nomark _))))) (pss_one (ps_ret (pe_op op_catA (pe_op op_catA (pe_slice sl_tupA (pv 1) po_none (po_some (pv 2))) (pe_slice sl_tupA (pv 1) (po_some (pe_un un_neg pe_int)) po_none)) (pe_slice sl_tupA (pv 1) (po_some (pv 2)) po_none)))) pss_nil)
    (pss_cons (ps_if (pt_cmpR op_eq (pv 4) pe_int (nomark _)) (pss_one (ps_ret (pe_callTy call_list_of (by rfl) mList (by decide +kernel) (pa_cons (pv 1) pa_nil)))) pss_nil)
    (pss_one (ps_ret (pe_ifExp (pt_cmpR op_eq (pv 4) pe_int (nomark _)) (pe_op op_catA (pe_op op_catA (pe_slice sl_tupA (pv 1) po_none (po_some (pv 2))) (pe_tup (pa_cons (pv 3) pa_nil))) (pe_slice sl_tupA (pv 1) (po_some (pv 2)) po_none)) (pe_tup (pa_cons (pv 1) pa_nil)))))))))))), ?_⟩
  have big : (2000 : Nat) ≤ sizeLine := by decide
  obtain ⟨xs, hx, Ax⟩ := Bd0.dat (b := b)
  have xl := Ax.len
  rw [List.length_map] at xl
  have few := okb.few
  have pcs : ∀ d ∈ bd.map prD, Pc d := fun d hd => by
    obtain ⟨q, hq, rfl⟩ := List.mem_map.mp hd
    exact pc_pr (okb.sm q hq) (okb.sz q hq)
  refine ⟨_, rfl, _, rfl, ab, _, rfl, .inr (.inl hx), _, _, rfl, rfl, b, _, j, rfl, B, by omega, (by show (1 : Int) ≤ (xs.length : Nat) + 1; omega), (by show ((xs.length : Nat) : Int) + 1 ≤ 1000000; omega), fun at0 H1 a0 a1 B1 o1 => ?_⟩
  obtain ⟨y1, hb1⟩ := B1.some
  obtain ⟨y0, hb0⟩ := B.some
  have hx1 := hx.but o1 hb0
  have Ax1 := Ax.but o1 hb0
  obtain ⟨i, hi⟩ := Int.eq_ofNat_of_zero_le a0
  subst hi
  refine seq_asg (Lq.runE (b := b) moreL _ rfl ⟨_, hb1⟩ ?_ fun pm H2 D2 s2 => ?_)
  · simp [moreL, Lq.ok, Lqs.ok, Lqs.len]
  obtain ⟨pl, ms, rfl, plb, hml, Am⟩ := (show DAt H2 b pm (.list moreDs) from D2).lst_of
  have ml : ms.length = 10 := Am.len
  have B2 := B1.same s2
  have hb2 := s2 _ _ hb1
  refine ⟨_, rfl, _, rfl, b, pl, ms, _, rfl, B2, by omega, hml, plb, by omega, by omega, fun vm H3 hvm B3 o3 => ?_⟩
  obtain ⟨km, hkm⟩ := List.mem_iff_getElem?.mp hvm
  obtain ⟨dm, hdm, Dm⟩ := Am.get hkm
  have pcm := more_pc dm (List.mem_of_getElem? hdm)
  obtain ⟨y3, hb3⟩ := B3.some
  refine ⟨_, rfl, b, _, _, rfl, B3, by omega, by decide, by decide, fun way H4 w0 w5 B4 o4 => ?_⟩
  have hx4 := ((hx1.same s2).but o3 hb2).but o4 hb3
  have Ax4 := ((Ax1.same s2).but o3 hb2).but o4 hb3
  have Dm4 := (Dm.but o3 hb2).but o4 hb3
  have o04 : But b H H4 := (o1.trans (but_of s2)).trans (o3.trans o4)
  obtain ⟨y4, hb4⟩ := B4.some
  have il : i ≤ xs.length := by
    have : ((i : Nat) : Int) < (xs.length : Nat) + 1 := a1
    omega
  have ds6 : (bd.map prD).length ≤ 6 := by rw [List.length_map]; exact few
  have fin : ∀ (p : Addr) (ys : List V) (es : List PyData) (H5 : Hp), TupAt H5 p ys → DAtAll H5 b ys es → (∀ d ∈ es, Pc d) → es.length ≤ 15 → Same H4 H5 → Q (.ref p) H5 := fun p ys es H5 hp Ap ps l s5 =>
    q (.ref p) (.tuple es) H5 (DAtAll.of hp Ap) (row_okT ps l).1 (row_okT ps l).2 ((B4.same s5).more (by omega)) (o04.trans (but_of s5))
  have cutTo : ∀ (zs : List V), cutV zs none (some ((i : Nat) : Int)) = zs.take i := fun zs => cut_to i
  have cutFrom : ∀ (zs : List V), cutV zs (some ((i : Nat) : Int)) none = zs.drop i := fun zs => cut_from (i := i) rfl
  have pcs' : ∀ {es : List PyData}, (∀ d ∈ es, d ∈ bd.map prD) → ∀ d ∈ es, Pc d := fun h d hd => pcs d (h d hd)
  have alone : ∀ H5 : Hp, Same H4 H5 → 1 ≤ sizeLine ∧ ∀ p, H5 p = none → Q (.ref p) (upd H5 p (.tup [V.ref ab])) := fun H5 s5 => ⟨by omega, fun p hp => by
    have s6 := same_new hp (.tup [V.ref ab])
    have one : DAt (upd H5 p (.tup [V.ref ab])) b (.ref p) (.tuple [.tuple (bd.map prD)]) := DAtAll.of (.inl upd_same) (DAtAll.cons (DAtAll.of (hx4.same (s5.trans s6)) (Ax4.same (s5.trans s6))) DAtAll.nil)
    have z := row_okT pcs (by omega)
    have z1 := z.1.2
    have z2 := (rows_ok pcs).2.1
    have z3 := (rows_ok pcs).2.2
    refine q _ _ _ one ⟨?_, ?_⟩ ?_ ((B4.same (s5.trans s6)).more (by omega)) (o04.trans (but_of (s5.trans s6)))
    · have := z.1.1
      simp only [PyData.canLay0, PyData.canLayAll0] at this ⊢
      rw [this]; rfl
    · simp only [PyData.depth, PyData.depthAll]
      omega
    · simp only [nd, ndAll]
      omega⟩
  have cat3 : ∀ H5 : Hp, Same H4 H5 → ∀ (es : List PyData) (lo : Option Int), (∀ d ∈ es, Pc d) → True := fun _ _ _ _ _ => trivial
  have eqT : ∀ {c : Int}, way = c → V.bl (decide (V.int way = V.int c)) = V.bl true := fun h => congrArg V.bl (decide_eq_true (by rw [h]))
  have eqF : ∀ {c : Int}, way ≠ c → V.bl (decide (V.int way = V.int c)) = V.bl false := fun h => congrArg V.bl (decide_eq_false (fun z => h (by injection z)))
  by_cases h0 : way = 0
  · refine ⟨_, rfl, rfl, true, eqT h0, iteT ⟨_, rfl, ab, _, rfl, .inr (.inl hx4), _, _, rfl, rfl, decide ((1 : Int) < (xs.length : Nat)), rfl, ?_⟩⟩
    by_cases h1 : (1 : Int) < (xs.length : Nat)
    · rw [decide_eq_true h1]
      refine iteT ⟨_, rfl, ab, xs, rfl, .inl hx4, fun p hp => ?_⟩
      have s5 := same_new hp (.tup xs.reverse)
      exact fin p xs.reverse (bd.map prD).reverse _ (.inl upd_same) (Ax4.same s5).back (pcs' fun d hd => List.mem_reverse.mp hd) (by rw [List.length_reverse]; omega) s5
    · rw [decide_eq_false h1]
      refine iteF ⟨_, rfl, rfl, false, eqF (by omega), iteF (iteF ⟨_, rfl, rfl, false, eqF (by omega), iteF ⟨_, rfl, rfl, false, eqF (by omega), iteF ?_⟩⟩)⟩
      exact ⟨_, rfl, alone H4 (Same.refl H4)⟩
  refine ⟨_, rfl, rfl, false, eqF h0, iteF (iteF ?_)⟩
  by_cases h1 : way = 1
  · refine ⟨_, rfl, rfl, true, eqT h1, iteT ⟨_, rfl, (by show 0 ≤ sizeLine; decide), fun g hg => ?_⟩⟩
    have s5 := same_new hg (.tup ([] : List V))
    have okd := (row_okT pcs (by omega)).1
    refine ⟨.tuple (bd.map prD), .tuple [], (DAtAll.of (hx4.same s5) (Ax4.same s5)).dp, .tup (.inl (.inl upd_same)) .nil, shaped_of okd.1 (by have := okd.2; omega), by decide +kernel, !(bd.map prD).isEmpty, congrArg (fun z => V.bl (!z)) eqv_nil, ?_⟩
    cases he : (bd.map prD).isEmpty with
    | true =>
      refine iteF ⟨_, rfl, rfl, false, eqF (by omega), iteF ⟨_, rfl, rfl, false, eqF (by omega), iteF ?_⟩⟩
      exact ⟨_, rfl, alone _ s5⟩
    | false =>
      refine iteT ⟨_, rfl, _, rfl, _, rfl, slA_ok (hx4.same s5) fun p1 H6 g1 s6 => ⟨_, rfl, 1, rfl, _, rfl, slN_ok ((hx4.same s5).same s6) fun p2 H7 g2 s7 => catA_ok (g1.same s7) g2 ?_ fun p3 H8 g3 s8 =>
        ⟨_, rfl, _, rfl, _, rfl, slN_ok ((((hx4.same s5).same s6).same s7).same s8) fun p4 H9 g4 s9 => catA_ok (g3.same s9) g4 ?_ fun p5 H10 g5 s10 => ?_⟩⟩⟩
      · have := cutV_length xs none (some ((i : Nat) : Int)); have := cutV_length xs (some (-1)) none; omega
      · have := cutV_length xs none (some ((i : Nat) : Int)); have := cutV_length xs (some (-1)) none; have := cutV_length xs (some ((i : Nat) : Int)) none
        rw [List.length_append]; omega
      · have sA : Same H4 H10 := ((s5.trans s6).trans s7).trans ((s8.trans s9).trans s10)
        have A10 := Ax4.same sA
        rw [cutTo, cut_last, cutFrom] at g5
        refine fin p5 _ ((bd.map prD).take i ++ (bd.map prD).drop (xs.length - 1) ++ (bd.map prD).drop i) H10 g5 (((A10.take i).append (A10.drop _)).append (A10.drop i)) (pcs' fun d hd => ?_) ?_ sA
        · rcases List.mem_append.mp hd with hd | hd
          · rcases List.mem_append.mp hd with hd | hd
            · exact List.mem_of_mem_take hd
            · exact List.mem_of_mem_drop hd
          · exact List.mem_of_mem_drop hd
        · rw [List.length_append, List.length_append, List.length_take, List.length_drop, List.length_drop]; omega
  refine ⟨_, rfl, rfl, false, eqF h1, iteF (iteF ?_)⟩
  by_cases h2 : way = 2
  · refine ⟨_, rfl, rfl, true, eqT h2, iteT ⟨_, rfl, ab, xs, rfl, .inr (.inl hx4), fun l hl => ?_⟩⟩
    have s5 := same_new hl (.lst xs)
    have lb : l ≠ b := (ne_of_none hb4 hl).symm
    refine q _ (.list (bd.map prD)) _ (by unfold DAt; exact ⟨l, xs, rfl, lb, upd_same, Ax4.same s5⟩) (row_okL pcs (by omega)).1 (row_okL pcs (by omega)).2 ((B4.same s5).more (by omega)) (o04.trans (but_of s5))
  refine ⟨_, rfl, rfl, false, eqF h2, iteF ?_⟩
  by_cases h3 : way = 3
  · refine ⟨_, rfl, rfl, true, eqT h3, iteT ⟨_, rfl, _, rfl, _, rfl, slA_ok hx4 fun p1 H6 g1 s6 => ⟨_, rfl, (by show 1 ≤ sizeLine; decide), fun p2 hp2 => ?_⟩⟩⟩
    have s7 := same_new hp2 (.tup [vm])
    refine catA_ok (g1.same s7) (.inl upd_same) ?_ fun p3 H8 g3 s8 => ⟨_, rfl, _, rfl, _, rfl, slN_ok (((hx4.same s6).same s7).same s8) fun p4 H9 g4 s9 => catA_ok (g3.same s9) g4 ?_ fun p5 H10 g5 s10 => ?_⟩
    · have := cutV_length xs none (some ((i : Nat) : Int)); rw [List.length_singleton]; omega
    · have := cutV_length xs none (some ((i : Nat) : Int)); have := cutV_length xs (some ((i : Nat) : Int)) none
      rw [List.length_append, List.length_singleton]; omega
    · have sA : Same H4 H10 := (s6.trans s7).trans ((s8.trans s9).trans s10)
      have A10 := Ax4.same sA
      rw [cutTo, cutFrom] at g5
      refine fin p5 _ ((bd.map prD).take i ++ [dm] ++ (bd.map prD).drop i) H10 g5 (((A10.take i).append (DAtAll.cons (Dm4.same sA) DAtAll.nil)).append (A10.drop i)) (fun d hd => ?_) ?_ sA
      · rcases List.mem_append.mp hd with hd | hd
        · rcases List.mem_append.mp hd with hd | hd
          · exact pcs d (List.mem_of_mem_take hd)
          · rw [List.mem_singleton.mp hd]; exact pcm
        · exact pcs d (List.mem_of_mem_drop hd)
      · rw [List.length_append, List.length_append, List.length_take, List.length_drop, List.length_singleton]; omega
  exact ⟨_, rfl, rfl, false, eqF h3, iteF ⟨_, rfl, alone H4 (Same.refl H4)⟩⟩
end
end Rp

set_option maxHeartbeats 16000000
/-! Right. -/
namespace Rp
open PySem PySem.Spec PyProof.Rows L2 TL NdefX LamX StX
theorem hu66 {A : Around} {k : Nat} (hr : Room k A) : A.units + 66 < cLine := by have := hr.un; omega
theorem lookup_mem {bd : Bd} {n : Int} {t : Tm} (h : bd.lookup n = some t) : (n, t) ∈ bd := by
  induction bd with
  | nil => cases h
  | cons q bd ih =>
    obtain ⟨m, u⟩ := q
    by_cases e : n = m
    · subst e
      simp [List.lookup] at h
      subst h; simp
    · have : (n == m) = false := beq_eq_false_iff_ne.mpr e
      rw [List.lookup_cons, this] at h
      exact List.mem_cons_of_mem _ (ih h)
theorem put_size {bd : Bd} (sz : ∀ q ∈ bd, q.2.size ≤ 12) : ∀ t : Tm, (t.put bd).size ≤ 12 * t.size ∧ (t.put bd).deep ≤ t.deep + 12
  | .v n => by
    show ((bd.lookup n).getD (.v n)).size ≤ _ ∧ ((bd.lookup n).getD (.v n)).deep ≤ _
    cases e : bd.lookup n with
    | none => exact ⟨by show 1 ≤ 12 * 1; omega, Nat.le_add_right _ _⟩
    | some u =>
      have h2 : u.size ≤ 12 := sz _ (lookup_mem e)
      have := Tm.deep_lt u
      exact ⟨h2, by show u.deep ≤ _; omega⟩
  | .z => ⟨by show 1 ≤ 12 * 1; omega, Nat.le_add_right _ _⟩
  | .s t => by have := put_size sz t; simp only [Tm.put, Tm.size, Tm.deep]; omega
  | .f l r => by have := put_size sz l; have := put_size sz r; simp only [Tm.put, Tm.size, Tm.deep]; omega
theorem put_nil : ∀ t : Tm, t.put [] = t
  | .v n => rfl
  | .z => rfl
  | .s t => by simp only [Tm.put, put_nil t]
  | .f l r => by simp only [Tm.put, put_nil l, put_nil r]
/-- two variables exchanged -/
def swp (a b : Int) : Bd := [(a, .v b), (b, .v a)]
theorem put_swp {a b : Int} (ne : a ≠ b) : ∀ t : Tm, (t.put (swp a b)).put (swp a b) = t
  | .v n => by
    by_cases h1 : n = a
    · subst h1
      have e1 : (Tm.v n).put (swp n b) = .v b := by simp [Tm.put, swp, List.lookup]
      have e2 : (Tm.v b).put (swp n b) = .v n := by
        have : (b == n) = false := beq_eq_false_iff_ne.mpr fun e => ne e.symm
        simp [Tm.put, swp, List.lookup, this]
      rw [e1, e2]
    · by_cases h2 : n = b
      · subst h2
        have f : (n == a) = false := beq_eq_false_iff_ne.mpr h1
        have e1 : (Tm.v n).put (swp a n) = .v a := by simp [Tm.put, swp, List.lookup, f]
        have e2 : (Tm.v a).put (swp a n) = .v n := by simp [Tm.put, swp, List.lookup]
        rw [e1, e2]
      · have f1 : (n == a) = false := beq_eq_false_iff_ne.mpr h1
        have f2 : (n == b) = false := beq_eq_false_iff_ne.mpr h2
        have e1 : (Tm.v n).put (swp a b) = .v n := by simp [Tm.put, swp, List.lookup, f1, f2]
        rw [e1, e1]
  | .z => rfl
  | .s t => by simp only [Tm.put, put_swp ne t]
  | .f l r => by simp only [Tm.put, put_swp ne l, put_swp ne r]
theorem gd_bd {bd : Bd} (ok : okBd bd) : Gd 2000 50 (bdD bd) := by
  have few := ok.few
  have h : GdA (200 * bd.length) 43 (bd.map prD) := gda_map fun q hq => by
    have n := ok.num q hq
    have sz := ok.sz q hq
    have := Tm.deep_lt q.2
    have g1 := (gd_int (i := q.1) (by omega)).more (Nat.le_refl _) (by decide : 1 ≤ 42)
    have g2 := (gd_tm q.2 (ok.sm q hq)).more (by omega : 8 * q.2.size ≤ 120) (by omega : q.2.deep + 1 ≤ 42)
    exact (GdA.cons g1 (GdA.cons g2 (gda_nil 42))).tup.more (by decide) (by decide)
  exact h.tup.more (by omega) (by decide)
theorem bd_right {bd : Bd} (ok : okBd bd) : IsBdD (bdD bd) := by
  refine ⟨_, rfl, fun e he => ?_, ?_⟩
  · obtain ⟨q, hq, rfl⟩ := List.mem_map.mp he
    exact ⟨q.1, tmD q.2, rfl, (ok.num q hq).1, (ok.num q hq).2, q.2, rfl, ok.sm q hq⟩
  · have e : (bd.map prD).map keyD = bd.map (·.1) := by rw [List.map_map]; rfl
    rw [e]
    unfold adjB
    rw [List.all_eq_true]
    intro j hj
    have lj := List.mem_range.mp hj
    have up := ok.up
    generalize bd.map (·.1) = ks at lj up
    rw [List.pairwise_iff_getElem] at up
    have := up j (j + 1) (by omega) (by omega) (by omega)
    rw [List.getD_eq_getElem?_getD, List.getD_eq_getElem?_getD, List.getElem?_eq_getElem (by omega), List.getElem?_eq_getElem (by omega)]
    exact decide_eq_true this
theorem alike_l {H : Hp} {n : Nat} {p q : Addr} {xs ys : List V} (hp : H p = some (.lst xs)) (hq : H q = some (.lst ys)) (l : xs.length = ys.length) (few : xs.length ≤ 40) (h : ∀ (i : Nat) (u v : V), xs[i]? = some u → ys[i]? = some v → Alike H n u v) : Alike H (n + 1) (.ref p) (.ref q) := by
  unfold Alike
  exact .inr ⟨p, q, _, _, rfl, rfl, .inl ⟨hp, hq⟩, l, by omega, h⟩
theorem atC {P : V → V → Prop} {a c : V} {xs ys : List V} (h1 : P a c) (h2 : ∀ (i : Nat) (u v : V), xs[i]? = some u → ys[i]? = some v → P u v) : ∀ (i : Nat) (u v : V), (a :: xs)[i]? = some u → (c :: ys)[i]? = some v → P u v := by
  intro i u v e1 e2
  match i with
  | 0 => simp at e1 e2; subst e1 e2; exact h1
  | i + 1 => exact h2 i u v (by simpa using e1) (by simpa using e2)
theorem at0 {P : V → V → Prop} : ∀ (i : Nat) (u v : V), ([] : List V)[i]? = some u → ([] : List V)[i]? = some v → P u v := by
  intro i u v e1; simp at e1
/-- what is known along the way -/
structure Rq (T : List NTab) (H : Hp) (b ab : Addr) (v : V) (t : Tm) (bd : Bd) (J : Nat) (H3 : Hp) : Prop where
  box : BoxAt H3 b J
  tm : TmAt H3 v t
  bd : BdAt H3 ab bd
  ext : ExtB T b H H3
theorem box_tups {H H' : Hp} {b : Addr} {j : Nat} (B : BoxAt H b j) (o : But b H H') : Tups H H' := by
  obtain ⟨y, hb⟩ := B.some
  exact Tups.but o hb
section
variable {T : List NTab} {H : Hp} {b ab : Addr} {v : V} {t : Tm} {bd : Bd} {J J' : Nat} {H3 H4 : Hp}
theorem Rq.same (R : Rq T H b ab v t bd J H3) (s : Same H3 H4) : Rq T H b ab v t bd J H4 := ⟨R.box.same s, R.tm.same s, R.bd.mono (Tups.same s), R.ext.trans (ExtB.same R.ext.tab s)⟩
theorem Rq.draw (R : Rq T H b ab v t bd J H3) (o : But b H3 H4) (B : BoxAt H4 b J') : Rq T H b ab v t bd J' H4 := by
  have u := box_tups R.box o
  obtain ⟨y, hb⟩ := R.box.some
  exact ⟨B, R.tm.mono u.1, R.bd.mono u, R.ext.trans (ExtB.but R.ext.tab hb o)⟩
theorem Rq.more (R : Rq T H b ab v t bd J H3) (e : Ext T H3 H4) : Rq T H b ab v t bd J H4 := by
  obtain ⟨x, y, z, hb, r⟩ := R.box.ex
  exact ⟨⟨x, y, z, e.lst hb, r⟩, R.tm.mono e.tups.1, R.bd.mono e.tups, R.ext.trans e.toB⟩
end
def spRight (T : List NTab) : Sp := fun vs H Q _ => ∃ (b : Addr) (j : Nat), vs = [.ref b] ∧ BoxAt H b j ∧ TabsN T H ∧ j + 400 ≤ 1000000 ∧ ∀ H', BoxAt H' b (j + 400) → ExtB T b H H' → Q (.bl true) H'
section
variable {P : Program} {w : World} {K : PySem.W.Frag} {mg : Str → Option Value} {base : Heap}
abbrev NR : List Str := ["_law_box_here", "_law_fresh_here", "_law_term", "_law_pairs_here", "_law_kept", "_law_due", "_law_told", "_law_turn", "_law_odd_here", "_law_one", "_law_two", "_law_both", "_law_pair_term", "_law_turned"]
theorem scRight : FnScope NR ["_law_box_here"] (defScope sRight) := ⟨rfl, rfl, rfl, by decide +kernel, rfl, by decide +kernel, by decide +kernel⟩
theorem ok_right {T : List NTab} {f fT fFr fTr fPa fLP fU fBi fOd fPs fS : Addr} {fd dT dFr dTr dPa dLP dU dBi dOd dPs dS : FuncData} (F : Fun K "_law_right" "_law_right" sRight f fd)
    (GT : FnOk P w K mg base CX0 1 fT dT ["_law_box_here", "_law_count"] spTake) (kT : PySem.W.keepIn K (.ref fT) = true) (bT : Binds K dT ["_law_box_here", "_law_count"] []) (mT : mg "_law_take" = some (.ref fT))
    (GFr : FnOk P w K mg base CX0 2 fFr dFr ["_law_box_here"] spFresh1) (kFr : PySem.W.keepIn K (.ref fFr) = true) (bFr : Binds K dFr ["_law_box_here"] []) (mFr : mg "_law_fresh" = some (.ref fFr))
    (GTr : FnOk P w K mg base CX0 66 fTr dTr ["_law_box_here", "_law_room", "_law_fresh_here"] (spTree 64)) (kTr : PySem.W.keepIn K (.ref fTr) = true) (bTr : Binds K dTr ["_law_box_here", "_law_room", "_law_fresh_here"] []) (mTr : mg "_law_tree" = some (.ref fTr))
    (GPa : FnOk P w K mg base CX0 67 fPa dPa ["_law_box_here", "_law_fresh_here", "_law_room"] spPairs) (kPa : PySem.W.keepIn K (.ref fPa) = true) (bPa : Binds K dPa ["_law_box_here", "_law_fresh_here", "_law_room"] []) (mPa : mg "_law_pairs" = some (.ref fPa))
    (GLP : FnOk P w K mg base CX0 50 fLP dLP ["_law_term", "_law_pairs_here"] (spLPut 50)) (kLP : PySem.W.keepIn K (.ref fLP) = true) (bLP : Binds K dLP ["_law_term", "_law_pairs_here"] []) (mLP : mg "_law_put" = some (.ref fLP))
    (GU : FnOk P w K mg base CX0 4 fU dU ["term", "binding"] (spPut T)) (kU : PySem.W.keepIn K (.ref fU) = true) (bU : Binds K dU ["term", "binding"] []) (mU : mg "put" = some (.ref fU))
    (GBi : FnOk P w K mg base CX0 5 fBi dBi ["thing"] spIsBd) (kBi : PySem.W.keepIn K (.ref fBi) = true) (bBi : Binds K dBi ["thing"] []) (mBi : mg "is_binding" = some (.ref fBi))
    (GOd : FnOk P w K mg base CX0 3 fOd dOd ["_law_box_here", "_law_pairs_here"] spOdd) (kOd : PySem.W.keepIn K (.ref fOd) = true) (bOd : Binds K dOd ["_law_box_here", "_law_pairs_here"] []) (mOd : mg "_law_odd" = some (.ref fOd))
    (GPs : FnOk P w K mg base CX0 62 fPs dPs ["_law_thing"] spIsPs) (kPs : PySem.W.keepIn K (.ref fPs) = true) (bPs : Binds K dPs ["_law_thing"] []) (mPs : mg "_law_is_pairs" = some (.ref fPs))
    (GS : FnOk P w K mg base CX0 62 fS dS ["_law_found", "_law_due"] (spSame 62)) (kS : PySem.W.keepIn K (.ref fS) = true) (bS : Binds K dS ["_law_found", "_law_due"] []) (mS : mg "_law_same" = some (.ref fS))
    (mRange : mg "range" = none) (mRepr : mg "repr" = none) : GnOk P w K mg base 68 f fd ["_law_box_here"] (spRight T) := by
  refine gok F scRight (fun vs H Q E h => ?_) (fun cdv A outer s H vs Q E hg hr h => ?_)
  · obtain ⟨b, j, rfl, _⟩ := h
    rfl
  obtain ⟨b, j, rfl, B, hT, hj, q⟩ := h
  have r1 : Room 1 _ := hr.mono (by decide)
  have r2 : Room 2 _ := hr.mono (by decide)
  have r3 : Room 3 _ := hr.mono (by decide)
  have r4 : Room 4 _ := hr.mono (by decide)
  have r5 : Room 5 _ := hr.mono (by decide)
  have r50 : Room 50 _ := hr.mono (by decide)
  have r62 : Room 62 _ := hr.mono (by decide)
  have r66 : Room 66 _ := hr.mono (by decide)
  refine ⟨_, (pss_cons (ps_set (i := 1) scRight.nd rfl (Or.inl rfl) (pe_call GFr r2 (by rfl) mFr kFr bFr .nil pass0 (pa_cons (pv 0) pa_nil)))
    (pss_cons (ps_par (i := 2) (j := 3) rfl scRight.nd rfl rfl (by decide) rfl rfl (pa_cons (pe_call GTr r66 (by rfl) mTr kTr bTr .nil pass0 (pa_cons (pv 0) (pa_cons (pe_op op_add pe_int (pe_call GT r1 (by rfl) mT kT bT .nil pass0 (pa_cons (pv 0) (pa_cons pe_int pa_nil)))) (pa_cons (pv 1) pa_nil)))) (pa_cons (pe_call GPa hr (by rfl) mPa kPa bPa .nil pass0 (pa_cons (pv 0) (pa_cons (pv 1) (pa_cons pe_int pa_nil)))) pa_nil)) (by rfl))
    (pss_cons (ps_par (i := 4) (j := 5) rfl scRight.nd rfl rfl (by decide) rfl rfl (pa_cons (pe_callB (cr_reprD hg (hu66 hr)) (by rfl) mRepr (by decide +kernel) (pa_cons (pe_lst (pa_cons (pv 2) (pa_cons (pv 3) pa_nil))) pa_nil)) (pa_cons (pe_call GLP r50 (by rfl) mLP kLP bLP .nil pass0 (pa_cons (pv 2) (pa_cons (pv 3) pa_nil))) pa_nil)) (by rfl))
    (pss_cons (ps_set (i := 6) scRight.nd rfl (Or.inl rfl) (pe_lst (pa_cons (pe_call GU r4 (by rfl) mU kU bU .nil pass0 (pa_cons (pv 2) (pa_cons (pv 3) pa_nil))) (pa_cons (pe_call GU r4 (by rfl) mU kU bU .nil pass0 (pa_cons (pv 2) (pa_cons (pe_tupF pa_nil) pa_nil))) (pa_cons (pe_call GU r4 (by rfl) mU kU bU .nil pass0 (pa_cons (pv 2) (pa_cons (pv 3) pa_nil))) pa_nil)))))
    (pss_cons (ps_if (PW.pt (pw_or (pt_not (pt_val (pe_call GS r62 (by rfl) mS kS bS .nil pass0 (pa_cons (pv 6) (pa_cons (pe_lst (pa_cons (pv 5) (pa_cons (pv 2) (pa_cons (pv 5) pa_nil)))) pa_nil))))) (pw_or1 (pt_cmpR op_ne (pe_callB (cr_reprD hg (hu66 hr)) (by rfl) mRepr (by decide +kernel) (pa_cons (pe_lst (pa_cons (pv 2) (pa_cons (pv 3) pa_nil))) pa_nil)) (pv 4) (nomark _))))) (pss_one (ps_ret pe_bl)) pss_nil)
    (pss_cons (ps_if (pt_cmpR op_isnot_bl (pe_call GBi r5 (by rfl) mBi kBi bBi .nil pass0 (pa_cons (pv 3) pa_nil)) pe_bl (nomark _)) (pss_one (ps_ret pe_bl)) pss_nil)
    (pss_cons (ps_for PassesOwn.never rfl (pi_range1 (by rfl) mRange (pa_cons pe_int pa_nil)) (pg_name (i := 7) scRight.nd rfl (Or.inl rfl))
      (pss_cons (ps_set (i := 8) scRight.nd rfl (Or.inl rfl) (pe_call GOd r3 (by rfl) mOd kOd bOd .nil pass0 (pa_cons (pv 0) (pa_cons (pv 3) pa_nil))))
    (pss_one (ps_if (pt_not (pt_val (pe_call GS r62 (by rfl) mS kS bS .nil pass0 (pa_cons (pe_call GBi r5 (by rfl) mBi kBi bBi .nil pass0 (pa_cons (pv 8) pa_nil)) (pa_cons (pe_call GPs r62 (by rfl) mPs kPs bPs .nil pass0 (pa_cons (pv 8) pa_nil)) pa_nil))))) (pss_one (ps_ret pe_bl)) pss_nil))))
    (pss_cons (ps_par (i := 9) (j := 10) rfl scRight.nd rfl rfl (by decide) rfl rfl (pa_cons (pe_call GT r1 (by rfl) mT kT bT .nil pass0 (pa_cons (pv 0) (pa_cons pe_int pa_nil))) (pa_cons (pe_op op_add pe_int (pe_call GT r1 (by rfl) mT kT bT .nil pass0 (pa_cons (pv 0) (pa_cons pe_int pa_nil)))) pa_nil)) (by rfl))
    (pss_cons (ps_set (i := 11) scRight.nd rfl (Or.inl rfl) (pe_tupF (pa_cons (pe_tup (pa_cons (pv 9) (pa_cons (pv 10) pa_nil))) (pa_cons (pe_tup (pa_cons (pv 10) (pa_cons (pv 9) pa_nil))) pa_nil))))
    (pss_cons (ps_set (i := 12) scRight.nd rfl (Or.inl rfl) (pe_tup (pa_cons pe_str (pa_cons (pv 2) (pa_cons (pe_tup (pa_cons pe_str (pa_cons (pv 9) (pa_cons (pe_tup (pa_cons pe_str (pa_cons (pv 10) pa_nil))) pa_nil)))) pa_nil)))))
    (pss_cons (ps_set (i := 13) scRight.nd rfl (Or.inl rfl) (pe_call GU r4 (by rfl) mU kU bU .nil pass0 (pa_cons (pv 12) (pa_cons (pv 11) pa_nil))))
    (pss_one (ps_ret (pe_call GS r62 (by rfl) mS kS bS .nil pass0 (pa_cons (pe_lst (pa_cons (pv 13) (pa_cons (pe_call GU r4 (by rfl) mU kU bU .nil pass0 (pa_cons (pv 13) (pa_cons (pv 11) pa_nil))) pa_nil))) (pa_cons (pe_lst (pa_cons (pe_call GLP r50 (by rfl) mLP kLP bLP .nil pass0 (pa_cons (pv 12) (pa_cons (pv 11) pa_nil))) (pa_cons (pv 12) pa_nil))) pa_nil)))))))))))))))), ?_⟩
  have big : (2000 : Nat) ≤ sizeLine := by decide
  obtain ⟨y0, hb0⟩ := B.some
  refine ⟨_, rfl, b, j, rfl, B, by omega, fun fr fs H1 hfr0 hfr fsn fs4 fs0 B1 o1 => ?_⟩
  have frb : fr ≠ b := (ne_of_none hb0 hfr0).symm
  refine ⟨_, rfl, _, rfl, b, _, _, rfl, B1, by omega, by decide, by decide, fun r H2 r0 r30 B2 o2 => ?_⟩
  have hfr2 := o2 _ _ hfr frb
  refine ⟨_, _, rfl, rfl, _, rfl, b, fr, fs, _, _, rfl, B2, ?_, hfr2, frb, by omega, ?_, ?_, fun v t H3 Tv tz tn B3 o3 => ?_⟩
  · show j + 9 + 1 + (1 + r).toNat ≤ 1000000; omega
  · show (1 : Int) ≤ 1 + r; omega
  · show (1 : Int) + r ≤ ((64 : Nat) : Int); omega
  have tz : t.size = (1 + r).toNat := tz
  have tsm : t.small := fun n hn => fsn n (tn n hn)
  have B3 : BoxAt H3 b (j + 9 + 1 + (1 + r).toNat) := B3
  refine ⟨_, rfl, _, rfl, b, fr, fs, _, _, rfl, B3, by omega, o3 _ _ hfr2 frb, frb, fsn, fs4, by decide, by decide, fun ab bd H4 BD okb B4 o4 => ?_⟩
  refine ⟨_, _, rfl, ?_⟩
  have R4 : Rq T H b ab v t bd (j + 300) H4 := by
    have o : But b H H4 := (o1.trans o2).trans (o3.trans o4)
    exact ⟨B4.more (by omega), Tv.mono (box_tups B3 o4).1, BD, ExtB.but hT hb0 o⟩
  have dl := Tm.deep_lt t
  have psz := put_size okb.sz t
  have gshow : Gd 5000 55 (.list [tmD t, bdD bd]) := ((GdA.cons ((gd_tm t tsm).more (by omega : _ ≤ 300) (by omega : _ ≤ 50)) (GdA.cons (gd_bd okb) (gda_nil 50))).lst).more (by decide) (by decide)
  obtain ⟨sh1, sh2, sh3, sh4⟩ := gshow.shown (by decide) (by decide)
  have dpd : ∀ {H' : Hp} {l : Addr}, H' l = some (.lst [v, V.ref ab]) → TmAt H' v t → BdAt H' ab bd → Dp K H' (.ref l) (.list [tmD t, bdD bd]) := fun h x y => by
    obtain ⟨xs, hx, Ax⟩ := y.dat (b := b)
    exact .lst (.inl (.inl h)) (.cons (x.dat (b := b)).dp (.cons (DAtAll.of hx Ax).dp .nil))
  refine ⟨_, rfl, _, rfl, (by show 2 ≤ sizeLine; decide), fun l1 hl1 => ?_⟩
  have s5 := same_new hl1 (.lst [v, V.ref ab])
  have R5 := R4.same s5
  refine ⟨_, _, rfl, dpd upd_same R5.tm R5.bd, sh1, sh2, sh3, sh4, ?_⟩
  refine ⟨_, rfl, _, rfl, v, t, ab, bd, rfl, R5.tm, by omega, R5.bd, fun dv H6 D6 s6 => ?_⟩
  have R6 := R5.same s6
  refine ⟨_, _, rfl, ?_⟩
  -- told
  refine ⟨_, rfl, _, rfl, v, t, ab, bd, rfl, R6.tm, by omega, R6.bd, R6.ext.tab, fun v1 H7 T7 e7 => ?_⟩
  have R7 := R6.more e7
  have D7 := D6.mono e7.tups.1
  refine ⟨_, rfl, (by show 0 ≤ sizeLine; decide), fun g o od hg0 => ?_⟩
  have s8 := same_new hg0 (.frz o (.tup ([] : List V)))
  have R8 := R7.same s8
  have T8 := T7.same s8
  have D8 := D7.same s8
  refine ⟨v, t, g, [], rfl, R8.tm, by omega, ⟨[], ⟨o, od, upd_same⟩, .nil, by simp, by simp⟩, R8.ext.tab, fun v2 H9 U9 e9 => ?_⟩
  rw [put_nil] at U9
  have R9 := R8.more e9
  have T9 := T8.mono e9.tups.1
  have D9 := D8.mono e9.tups.1
  refine ⟨_, rfl, _, rfl, v, t, ab, bd, rfl, R9.tm, by omega, R9.bd, R9.ext.tab, fun v3 H10 W10 e10 => ?_⟩
  have R10 := R9.more e10
  have T10 := T9.mono e10.tups.1
  have D10 := D9.mono e10.tups.1
  have U10 := U9.mono e10.tups.1
  refine ⟨(by show 3 ≤ sizeLine; decide), fun l2 hl2 => ?_⟩
  have s11 := same_new hl2 (.lst [v1, v2, v3])
  have R11 := R10.same s11
  have hl11 : (upd H10 l2 (.lst [v1, v2, v3])) l2 = some (.lst [v1, v2, v3]) := upd_same
  refine ⟨_, rfl, _, rfl, _, rfl, _, rfl, (by show 3 ≤ sizeLine; decide), fun l3 hl3 => ?_⟩
  have s12 := same_new hl3 (.lst [dv, v, dv])
  have R12 := R11.same s12
  have sB := s11.trans s12
  have hd50 : t.deep < 60 := by omega
  have hd60 : (t.put bd).deep < 60 := by omega
  refine ⟨_, _, 61, rfl, rfl, alike_l (s12 _ _ hl11) upd_same rfl (by simp) (atC (alike_tm (T10.same sB) (D10.same sB) hd60) (atC (alike_tm (U10.same sB) R12.tm hd50) (atC (alike_tm (W10.same sB) (D10.same sB) hd60) at0))), fun H13 s13 => ⟨true, rfl, iteF ?_⟩⟩
  have R13 := R12.same s13
  refine ⟨_, rfl, _, rfl, (by show 2 ≤ sizeLine; decide), fun l4 hl4 => ?_⟩
  have s14 := same_new hl4 (.lst [v, V.ref ab])
  have R14 := R13.same s14
  refine ⟨_, _, rfl, dpd upd_same R14.tm R14.bd, sh1, sh2, sh3, sh4, ?_⟩
  refine ⟨_, rfl, rfl, false, congrArg V.bl (by simp), iteF ?_⟩
  -- a BINDING it is
  obtain ⟨xs14, hx14, Ax14⟩ := R14.bd.dat (b := b)
  have pcs : ∀ d ∈ bd.map prD, Pc d := fun d hd => by
    obtain ⟨q, hq, rfl⟩ := List.mem_map.mp hd
    exact pc_pr (okb.sm q hq) (okb.sz q hq)
  have few := okb.few
  have rk := row_okT pcs (by rw [List.length_map]; omega)
  refine ⟨_, rfl, b, _, bdD bd, rfl, DAtAll.of hx14 Ax14, rk.1, rk.2, fun rr H15 hrr s15 => ?_⟩
  obtain rfl : rr = true := hrr.mpr (bd_right okb)
  refine ⟨_, _, rfl, rfl, false, rfl, iteF ?_⟩
  have R15 := R14.same s15
  -- odd ones
  refine ⟨6, rfl, by decide, by decide, for_range (lo := 0) (fun i σ H3 => ∃ c7 c8 : Option V, σ = [some (.ref b), some (.ref fr), some v, some (.ref ab), some (.str (PyData.shown (.list [tmD t, bdD bd]))), some dv, some (.ref l2), c7, c8, none, none, none, none, none] ∧
      Rq T H b ab v t bd (j + 300 + 4 * i) H3) ⟨_, _, rfl, R15⟩ ?_ ?_⟩
  · rintro i σ H16 hi ⟨c7, c8, rfl, R16⟩
    refine ⟨_, rfl, _, rfl, b, ab, bd, _, rfl, R16.box, R16.bd, okb, by omega, fun ov od H17 D17 okd ndd B17 o17 => ?_⟩
    have R17 := R16.draw o17 B17
    refine ⟨_, rfl, b, ov, od, rfl, D17, okd, ndd, fun ra H18 hra s18 => ?_⟩
    refine ⟨_, rfl, b, ov, od, rfl, D17.same s18, okd, ndd, fun rb H19 hrb s19 => ?_⟩
    obtain rfl : ra = rb := by
      cases ra <;> cases rb <;> simp_all
    refine ⟨_, _, 61, rfl, rfl, alike_plain trivial, fun H20 s20 => ⟨true, rfl, iteF ?_⟩⟩
    exact ⟨_, _, rfl, ((R17.same s18).same s19).same s20⟩
  rintro σ H16 ⟨c7, c8, rfl, R16⟩
  -- two variables exchanged
  refine ⟨_, rfl, b, _, _, rfl, R16.box, by omega, by decide, by decide, fun one H17 o0 o50 B17 o17 => ?_⟩
  have R17 := R16.draw o17 B17
  refine ⟨_, rfl, b, _, _, rfl, R17.box, by omega, by decide, by decide, fun tw H18 w0 w50 B18 o18 => ?_⟩
  have R18 := R17.draw o18 B18
  refine ⟨_, _, rfl, rfl, _, _, rfl, ?_⟩
  have ne12 : one ≠ 50 + tw := by omega
  refine ⟨_, rfl, _, rfl, (by show 2 ≤ sizeLine; decide), fun p1 hp1 => ?_⟩
  have s19 := same_new hp1 (.tup [V.int one, V.int (50 + tw)])
  refine ⟨_, rfl, _, rfl, (by show 2 ≤ sizeLine; decide), fun p2 hp2 => ?_⟩
  have s20 := same_new hp2 (.tup [V.int (50 + tw), V.int one])
  refine ⟨(by show 2 ≤ sizeLine; decide), fun g2 ob od2 hg2 => ?_⟩
  have s21 := same_new hg2 (.frz ob (.tup [V.ref p1, V.ref p2]))
  have e1 := s21 _ _ (s20 _ _ (upd_same : (upd H18 p1 (.tup [V.int one, V.int (50 + tw)])) p1 = some (.tup [V.int one, V.int (50 + tw)])))
  have e2 := s21 _ _ (upd_same : (upd (upd H18 p1 (.tup [V.int one, V.int (50 + tw)])) p2 (.tup [V.int (50 + tw), V.int one])) p2 = some (.tup [V.int (50 + tw), V.int one]))
  have R21 := ((R18.same s19).same s20).same s21
  have SW : BdAt (upd (upd (upd H18 p1 (.tup [V.int one, V.int (50 + tw)])) p2 (.tup [V.int (50 + tw), V.int one])) g2 (.frz ob (.tup [V.ref p1, V.ref p2]))) g2 (swp one (50 + tw)) :=
    ⟨[p1, p2], ⟨ob, od2, upd_same⟩, .cons ⟨_, e1, .v _⟩ (.cons ⟨_, e2, .v _⟩ .nil), by simp [swp]; exact ne12, by simp [swp]⟩
  generalize upd (upd (upd H18 p1 (.tup [V.int one, V.int (50 + tw)])) p2 (.tup [V.int (50 + tw), V.int one])) g2 (.frz ob (.tup [V.ref p1, V.ref p2])) = H21 at R21 SW
  refine ⟨_, rfl, _, rfl, _, rfl, (by show 2 ≤ sizeLine; decide), fun q1 hq1 => ⟨(by show 3 ≤ sizeLine; decide), fun q2 hq2 => ⟨(by show 3 ≤ sizeLine; decide), fun q3 hq3 => ?_⟩⟩⟩
  have s22 := same_new hq1 (.tup [V.str "s", V.int (50 + tw)])
  have s23 := same_new hq2 (.tup [V.str "f", V.int one, V.ref q1])
  have s24 := same_new hq3 (.tup [V.str "f", v, V.ref q2])
  have s224 := (s22.trans s23).trans s24
  have R24 := R21.same s224
  have SW24 := SW.mono (Tups.same s224)
  have PT : TmAt (upd (upd (upd H21 q1 (.tup [V.str "s", V.int (50 + tw)])) q2 (.tup [V.str "f", V.int one, V.ref q1])) q3 (.tup [V.str "f", v, V.ref q2])) (.ref q3) (.f t (.f (.v one) (.s (.v (50 + tw))))) :=
    .f upd_same R24.tm (.f (s24 _ _ upd_same) (.v _) (.s (s24 _ _ (s23 _ _ upd_same)) (.v _)))
  generalize upd (upd (upd H21 q1 (.tup [V.str "s", V.int (50 + tw)])) q2 (.tup [V.str "f", V.int one, V.ref q1])) q3 (.tup [V.str "f", v, V.ref q2]) = H24 at R24 SW24 PT
  obtain ⟨pt, hpt⟩ : ∃ pt : Tm, pt = .f t (.f (.v one) (.s (.v (50 + tw)))) := ⟨_, rfl⟩
  rw [← hpt] at PT
  have ptz : pt.size ≤ 40 := by rw [hpt]; simp only [Tm.size]; omega
  have ptd := Tm.deep_lt pt
  have swz : ∀ q ∈ swp one (50 + tw), q.2.size ≤ 12 := fun q hq => by
    simp only [swp, List.mem_cons, List.not_mem_nil, or_false] at hq
    rcases hq with rfl | rfl <;> (show (1 : Nat) ≤ 12; omega)
  have pz := put_size swz pt
  refine ⟨_, rfl, _, rfl, .ref q3, pt, g2, _, rfl, PT, by omega, SW24, R24.ext.tab, fun v13 H25 T25 e25 => ?_⟩
  have R25 := R24.more e25
  have SW25 := SW24.mono e25.tups
  have PT25 := PT.mono e25.tups.1
  refine ⟨_, rfl, _, rfl, _, rfl, v13, _, g2, _, rfl, T25, by omega, SW25, R25.ext.tab, fun v14 H26 T26 e26 => ?_⟩
  rw [put_swp ne12] at T26
  have R26 := R25.more e26
  have SW26 := SW25.mono e26.tups
  have PT26 := PT25.mono e26.tups.1
  have T26' := T25.mono e26.tups.1
  refine ⟨(by show 2 ≤ sizeLine; decide), fun l5 hl5 => ?_⟩
  have s27 := same_new hl5 (.lst [v13, v14])
  have R27 := R26.same s27
  refine ⟨_, rfl, _, rfl, .ref q3, pt, g2, _, rfl, PT26.same s27, by omega, SW26.mono (Tups.same s27), fun v15 H28 T28 s28 => ?_⟩
  have R28 := R27.same s28
  refine ⟨_, rfl, (by show 2 ≤ sizeLine; decide), fun l6 hl6 => ?_⟩
  have s29 := same_new hl6 (.lst [v15, V.ref q3])
  have R29 := R28.same s29
  have sC := (s27.trans s28).trans s29
  refine ⟨_, _, 61, rfl, rfl, alike_l (s29 _ _ (s28 _ _ upd_same)) upd_same rfl (by simp) (atC (alike_tm (T26'.same sC) (T28.same s29) (by omega)) (atC (alike_tm (T26.same sC) (PT26.same sC) (by omega)) at0)), fun H30 s30 => ?_⟩
  have R30 := R29.same s30
  exact q H30 (R30.box.more (by omega)) R30.ext
end
end Rp

set_option maxHeartbeats 8000000
/-! The law k04. -/
namespace Rp
open PySem PySem.Spec PyProof.Rows L2 TL NdefX LamX StX
theorem BoxAt.upd {H : Hp} {b D : Addr} {j : Nat} (B : BoxAt H b j) (n : D ≠ b) (o : HO) : BoxAt (L2.upd H D o) b j := by
  obtain ⟨x, y, z, h, r⟩ := B.ex
  exact ⟨x, y, z, by rw [upd_ne n.symm]; exact h, r⟩
def endL : Lq := .t (.cons .non (.cons (.l .nil) (.cons (.i 0) (.cons (.s "-") (.cons (.t (.cons (.t (.cons (.i 0) (.cons (.i 1) .nil))) (.cons (.t (.cons (.i 0) (.cons (.i 2) .nil))) .nil)))
  (.cons (.t (.cons (.t (.cons (.i 1) (.cons (.i 0) .nil))) (.cons (.t (.cons (.i 0) (.cons (.i 1) .nil))) .nil))) (.cons (.t (.cons (.i 0) (.cons (.i 1) .nil))) .nil)))))))
def endT : TE := tTup (tCons (tC .non) (tCons (tLst tNil) (tCons (tC (.int 0)) (tCons (tC (.str "-")) (tCons (tTup (tCons (tTup (tCons (tC (.int 0)) (tCons (tC (.int 1)) tNil))) (tCons (tTup (tCons (tC (.int 0)) (tCons (tC (.int 2)) tNil))) tNil))) (tCons (tTup (tCons (tTup (tCons (tC (.int 1)) (tCons (tC (.int 0)) tNil))) (tCons (tTup (tCons (tC (.int 0)) (tCons (tC (.int 1)) tNil))) tNil))) (tCons (tTup (tCons (tC (.int 0)) (tCons (tC (.int 1)) tNil))) tNil)))))))
theorem end_te : endL.te = endT := rfl
def endDs : List PyData := match endL.d with | .tuple ds => ds | _ => []
theorem end_pc : ∀ d ∈ endDs, Pc d := by
  have all : (endDs.all fun d => d.canLay0 && decide (d.depth ≤ 20) && decide (nd d ≤ 60)) = true := by decide +kernel
  intro d hd
  have := List.all_eq_true.mp all d hd
  simp only [Bool.and_eq_true, decide_eq_true_eq] at this
  exact ⟨this.1.1, this.1.2, this.2⟩
theorem no_pr {i : Int} : ¬ IsPr (.int i) := fun ⟨_, _, z, _⟩ => nomatch z
theorem end_no : ∀ d ∈ endDs, ¬ IsBdD d := by
  have e : endDs = [.none, .list [], .int 0, .str "-", .tuple [.tuple [.int 0, .int 1], .tuple [.int 0, .int 2]], .tuple [.tuple [.int 1, .int 0], .tuple [.int 0, .int 1]], .tuple [.int 0, .int 1]] := rfl
  rw [e]
  intro d hd
  simp only [List.mem_cons, List.not_mem_nil, or_false] at hd
  rcases hd with rfl | rfl | rfl | rfl | rfl | rfl | rfl
  · exact isBd_no fun ds e => nomatch e
  · exact isBd_no fun ds e => nomatch e
  · exact isBd_no fun ds e => nomatch e
  · exact isBd_no fun ds e => nomatch e
  · rw [isBd_tup]; rintro ⟨_, h⟩; exact absurd h (by decide)
  · rw [isBd_tup]; rintro ⟨_, h⟩; exact absurd h (by decide)
  · rw [isBd_tup]; rintro ⟨h, _⟩; exact no_pr (h (.int 0) (by simp))
theorem ret_all {K : PySem.W.Frag} {te tel : TE} {g : TG} {tt : TT} {vs : List Nat} {D : Ends} {σ : L2.St} {H : Hp} (h : te σ H fun x H1 => ∃ a, x = V.ref a ∧ (∃ xs, SqT K H1 a xs) ∧ (tLc (fun _ _ R => R (Itt K a) H1) g tt tel vs) σ H1 (fun v H2 => rAll K [v] H2 D.rt)) :
    tRet (tCB (rAll K) (tCons (tLc (iTup K te) g tt tel vs) tNil)) D σ H := h
def spLaw (T : List NTab) (K : PySem.W.Frag) : Sp := fun vs H Q _ => ∃ (a : Addr) (ns : List Int), vs = [.ref a] ∧ SqL K H a (ns.map V.int) ∧ ns.length ≤ 63 ∧ TabsN T H ∧ ∀ H', Q (.bl true) H'
def teIs : TE := tOp (fun x y H Q => ∃ a b, x = .bl a ∧ y = .bl b ∧ Q (.bl (decide (a = b))) H) (tCall spIsBd [] E0 (tCons (tVar 4) tNil)) (tC (.bl false))
section
variable {P : Program} {w : World} {K : PySem.W.Frag} {mg : Str → Option Value} {base : Heap}
abbrev NLw : List Str := ["_law_script", "_law_k", "_law_box_here", "_law_turn", "_law_thing"]
theorem scLaw : FnScope NLw ["_law_script"] (defScope sLaw) := ⟨rfl, rfl, rfl, by decide +kernel, rfl, by decide +kernel, by decide +kernel⟩
theorem ok_law {T : List NTab} {f fB fR fBi : Addr} {fd dB dR dBi : FuncData} (F : Fun K "law" "law" sLaw f fd)
    (GB : FnOk P w K mg base CX0 1 fB dB ["_law_script", "_law_k"] (spBox K)) (kB : PySem.W.keepIn K (.ref fB) = true) (bB : Binds K dB ["_law_script", "_law_k"] []) (mB : mg "_law_box" = some (.ref fB))
    (GR : GnOk P w K mg base 68 fR dR ["_law_box_here"] (spRight T)) (kR : PySem.W.keepIn K (.ref fR) = true) (bR : Binds K dR ["_law_box_here"] []) (mR : mg "_law_right" = some (.ref fR))
    (GBi : FnOk P w K mg base CX0 5 fBi dBi ["thing"] spIsBd) (kBi : PySem.W.keepIn K (.ref fBi) = true) (bBi : Binds K dBi ["thing"] []) (mBi : mg "is_binding" = some (.ref fBi))
    (mRange : mg "range" = none) (mMin : mg "min" = none) (mLen : mg "len" = none) (mAll : mg "all" = none) : GnOk P w K mg base 69 f fd ["_law_script"] (spLaw T K) := by
  refine gok F scLaw (fun vs H Q E h => ?_) (fun cdv A outer s H vs Q E hg hr h => ?_)
  · obtain ⟨a, ns, rfl, _⟩ := h
    rfl
  obtain ⟨a, ns, rfl, hS, hl, hT, q⟩ := h
  have r1 : Room 1 _ := hr.mono (by decide)
  have r5 : Room 5 _ := hr.mono (by decide)
  refine ⟨_, (pss_cons (ps_for PassesOwn.never rfl (pi_range1 (by rfl) mRange (pa_cons (pe_op op_add pe_int (pe_callB (call_min2 rfl) (by rfl) mMin (by decide +kernel) (pa_cons pe_int (pa_cons (pe_callB call_len_seq (by rfl) mLen PySem.boot_len (pa_cons (pv 0) pa_nil)) pa_nil)))) pa_nil)) (pg_name (i := 1) scLaw.nd rfl (Or.inl rfl))
      (pss_cons (ps_set (i := 2) scLaw.nd rfl (Or.inr rfl) (pe_call GB r1 (by rfl) mB kB bB .nil pass0 (pa_cons (pv 0) (pa_cons (pv 1) pa_nil))))
    (pss_one (ps_if (pt_not (pt_val (pe_callB (cr_all rfl) (by rfl) mAll (by decide +kernel) (pa_cons (pe_lc (own := [("_law_turn", 3)]) (g := gName 3) (tt := tYes) (te := tCall (spRight T) [] E0 (tCons (tVar 2) tNil)) rfl scLaw.nd (pi_range1 (by rfl) mRange (pa_cons pe_int pa_nil)) (blkOk_by (N := NLw) (sc := defScope sLaw) (by decide +kernel)) (fun _ _ _ _ _ => (pg_name (i := 3) scLaw.nd rfl (Or.inl rfl))) (fun _ _ _ _ _ => pts_nil) (fun _ _ _ _ _ => (pe_callG GR hg hr (by rfl) mR kR bR (pa_cons (pv 2) pa_nil)))) pa_nil)))) (pss_one (ps_ret pe_bl)) pss_nil))))
    (pss_one (ps_ret (pe_callB (cr_all rfl) (by rfl) mAll (by decide +kernel) (pa_cons (pe_lc (own := [("_law_thing", 4)]) (g := gName 4) (tt := tYes) (te := teIs) rfl scLaw.nd (pi_tup (pe_tup (pa_cons pe_non (pa_cons (pe_lst pa_nil) (pa_cons pe_int (pa_cons pe_str (pa_cons (pe_tup (pa_cons (pe_tup (pa_cons pe_int (pa_cons pe_int pa_nil))) (pa_cons (pe_tup (pa_cons pe_int (pa_cons pe_int pa_nil))) pa_nil))) (pa_cons (pe_tup (pa_cons (pe_tup (pa_cons pe_int (pa_cons pe_int pa_nil))) (pa_cons (pe_tup (pa_cons pe_int (pa_cons pe_int pa_nil))) pa_nil))) (pa_cons (pe_tup (pa_cons pe_int (pa_cons pe_int pa_nil))) pa_nil))))))))) (blkOk_by (N := NLw) (sc := defScope sLaw) (by decide +kernel)) (fun _ _ _ _ _ => (pg_name (i := 4) scLaw.nd rfl (Or.inl rfl))) (fun _ _ _ _ _ => pts_nil) (fun _ _ _ _ _ => (pe_cmpR op_is_bl (pe_call GBi r5 (by rfl) mBi kBi bBi .nil pass0 (pa_cons (pv 4) pa_nil)) pe_bl (nomark _)))) pa_nil))))), ?_⟩
  have big : (600 : Nat) ≤ sizeLine := by decide
  have mn : 1 ≤ (1 : Int) + (if (((ns.map V.int).length : Nat) : Int) < 4 then (((ns.map V.int).length : Nat) : Int) else 4) ∧ (1 : Int) + (if (((ns.map V.int).length : Nat) : Int) < 4 then (((ns.map V.int).length : Nat) : Int) else 4) ≤ 5 := by
    split <;> omega
  refine ⟨_, rfl, a, _, rfl, .inl hS, _, _, rfl, _, _, rfl, rfl, _, rfl, by omega, by omega, for_range (lo := 0) (fun i σ H2 => ∃ x1 x2 : Option V, σ = [some (.ref a), x1, x2, none, none] ∧ SqL K H2 a (ns.map V.int) ∧ TabsN T H2 ∧ (0 < i → ∃ b y, H2 b = some (.lst y)))
    ⟨_, _, rfl, hS, hT, fun z => absurd z (by omega)⟩ ?_ ?_⟩
  · rintro i σ H2 hi ⟨x1, x2, rfl, hS2, t2, _⟩
    have i5 : (i : Int) < 5 := by omega
    refine ⟨_, rfl, _, rfl, a, ns, _, rfl, hS2, hl, by omega, by omega, fun b H3 hb B3 s3 => ?_⟩
    obtain ⟨y3, hb3⟩ := B3.some
    have S3 := s3.seq hS2
    have t3 := t2.ext s3
    refine ⟨4, rfl, by decide, by decide, fun D hD => ?_⟩
    have Db : D ≠ b := (ne_of_none hb3 hD).symm
    have s4 := same_new hD (.lst ([] : List V))
    refine lc_it (walk_range (lo := 0) (n := 4)) (fun i H4 => H4 D = some (.lst (List.replicate i (V.bl true))) ∧ BoxAt H4 b (400 * i) ∧ TabsN T H4 ∧ ∀ c o, H3 c = some o → c ≠ b → (∀ ps, o ≠ .tbl ps) → H4 c = some o)
      ⟨upd_same, (B3.same s4).more (by omega), t3.ext s4, fun c o z _ _ => s4 _ _ z⟩ (fun _ _ _ _ => trivial) ?_ ?_
    · rintro k x H0 H4 lk ⟨h4, B4, t4, e4⟩ ⟨rfl, ex⟩
      refine ⟨rfl, ?_⟩
      refine ⟨_, rfl, b, _, rfl, B4, t4, by omega, fun H5 B5 e5 => ?_⟩
      have h5 := e5.lst h4 Db
      refine ⟨_, h5, by rw [List.length_replicate]; omega, by rw [upd_same, List.replicate_succ'], (B5.upd Db _).more (by omega), tabs_but e5.tab h5 (but_upd _), fun c o z nc nt => ?_⟩
      rw [upd_ne (ne_of_none z hD)]
      exact e5.ext c o (e4 c o z nc nt) nc nt
    · rintro H4 ⟨h4, B4, t4, e4⟩
      have e : (List.replicate 4 true).all id = true := by decide
      refine ⟨D, List.replicate 4 true, rfl, .inl (.inl (by rw [List.map_replicate]; exact h4)), ?_⟩
      rw [e]
      have S4 : SqL K H4 a (ns.map V.int) := by
        rcases hS2 with (z | ⟨o, z⟩) | z
        · exact .inl (.inl (e4 a _ (s3 _ _ z) (ne_of_none z hb) fun ps e => by cases e))
        · exact .inl (.inr ⟨o, e4 a _ (s3 _ _ z) (ne_of_none z hb) fun ps e => by cases e⟩)
        · exact .inr z
      exact ⟨true, rfl, iteF ⟨_, _, rfl, S4, t4, fun _ => ⟨D, _, h4⟩⟩⟩
  · rintro σ H2 ⟨x1, x2, rfl, hS2, t2, some_⟩
    obtain ⟨b, y, hb⟩ := some_ (by omega)
    dsimp only
    refine ret_all ?_
    refine Lq.runE (b := b) endL endT end_te ⟨_, hb⟩ (by simp [endL, Lq.ok, Lqs.ok, Lqs.len]) fun pv H3 D3 s3 => ?_
    obtain ⟨p, xs, rfl, hp, Ax⟩ := (show DAt H3 b pv (.tuple endDs) from D3).tup_of
    have xl : xs.length = 7 := Ax.len
    refine ⟨p, rfl, ⟨_, .inl hp⟩, fun D hD => lc_tup (K := K) (a := p) (xs := xs) (fun i H4 => H4 D = some (.lst (List.replicate i (V.bl true))) ∧ Same H3 H4) ⟨upd_same, same_new hD _⟩ (fun i H4 _ h => .inl (hp.same h.2)) ?_ ?_⟩
    · rintro i x H4 hi ⟨h4, s4⟩
      obtain ⟨d, hd, Dx⟩ := Ax.get hi
      have dm := List.mem_of_getElem? hd
      have li : i < xs.length := (List.getElem?_eq_some_iff.mp hi).1
      have pc := end_pc d dm
      refine ⟨rfl, ?_⟩
      unfold teIs
      refine ⟨_, rfl, b, x, d, rfl, Dx.same s4, ⟨pc.lay, by have := pc.dp; omega⟩, by have := pc.nd; omega, fun r H5 hr5 s5 => ?_⟩
      obtain rfl : r = false := by
        cases r with
        | false => rfl
        | true => exact absurd (hr5.mp rfl) (end_no d dm)
      refine ⟨_, _, rfl, rfl, _, s5 _ _ h4, by rw [List.length_replicate]; omega, by rw [upd_same, List.replicate_succ']; rfl, fun c o z => by rw [upd_ne (ne_of_none z hD)]; exact s5 _ _ (s4 _ _ z)⟩
    · rintro H4 ⟨h4, s4⟩
      have e : (List.replicate xs.length true).all id = true := by rw [List.all_eq_true]; intro x hx; rw [List.eq_of_mem_replicate hx]; rfl
      refine ⟨D, List.replicate xs.length true, rfl, .inl (.inl (by rw [List.map_replicate]; exact h4)), ?_⟩
      rw [e]
      exact q _
end
end Rp

/-! The end of a law whose promise is a GnOk, and in whose run a def within a def is made: its table of code objects is tracked. -/
namespace Rp
open PySem PySem.Spec PyProof.Rows L2 LamX NdefX
/-- the law's own call; Pt: the table of the def that makes the inner one -/
theorem law_callGT {Pr : Program} {w : World} {K : PySem.W.Frag} {mg mb : Str → Option Value} {k : Nat} {fa a c Pt : Addr} {fd : FuncData} {x : Str} {sp : Sp} {s₁ : Shared} {vs : List Value} {ns : List Int}
    (KX : K.In s₁.heap) (hns : s₁.heap.Ns mainGlobals mg) (hb : s₁.heap.Ns builtinsNs mb) (hbb : ∀ x : Str, x ≠ "__name__" → mb x = bootBuiltins x) (hlim : s₁.heap.NoLimit) (hg : s₁.gens = #[])
    (hT : s₁.heap.get? Pt = some { cls := .none, data := .fields #[] }) (nT : K.lookup Pt = none) (C : PySem.W.CodeHd s₁.heap c Pt)
    (hbm : ∃ (bm : Addr) (ob : Obj), mg "__builtins__" = some (.ref bm) ∧ bm ≠ builtinsNs ∧ s₁.heap.get? bm = some ob ∧ ob.cls = .type "module" ∧ ob.dict = some builtinsNs ∧ ob.data = .plain)
    (ha : s₁.heap.get? a = some { cls := .type "list", data := .seq vs.toArray }) (hi : IntsAre vs ns) (hl : ns.length ≤ sizeLine) (hr : Room k callerA)
    (F : ∀ base : Heap, K.In base → base.Ns mainGlobals mg → TabB base mg c Pt → GnOk Pr w K mg base k fa fd [x] sp) (bind : ∀ (s : Shared) (u : Value), BindsTo s fd ⟨[u], []⟩ [(x, u)])
    (ask : ∀ H : Hp, H Pt = some (.tbl #[]) → SqL K H a (ns.map V.int) → sp [.ref a] H (fun v _ => v = .bl true) E0) :
    codeAny (model Pr w) callerA (.call (.ref fa) ⟨[.ref a], []⟩) (fun r s' => r = .ok (.ret (.bool true)) ∧ OldK s₁.heap s'.heap ∧ s'.os = s₁.os ∧ AllBare s'.gens) s₁ := by
  have rv := vals_ints hi
  have lenV := hi.length
  have aP : a ≠ Pt := by
    rintro rfl
    rw [ha] at hT
    have z : Data.seq vs.toArray _ = Data.fields #[] := congrArg Obj.data (Option.some.inj hT)
    cases z
  have from_ : ∀ H : Hp, H Pt = some (.tbl #[]) → (∀ b, b ≠ Pt → H b = none ∨ ∃ o ys, H b = some (.frz o (.lst ys))) → SqL K H a (ns.map V.int) → HOk Pr w H s₁.heap → (∀ b, H b ≠ none → b = Pt ∨ (b = a ∧ K.lookup a = none)) →
      codeAny (model Pr w) callerA (.call (.ref fa) ⟨[.ref a], []⟩) (fun r s' => r = .ok (.ret (.bool true)) ∧ OldK s₁.heap s'.heap ∧ s'.os = s₁.os ∧ AllBare s'.gens) s₁ := by
    intro H hP only hS hok hA
    have free : ∀ {b : Addr} {o : Obj}, s₁.heap.get? b = some o → o.data ≠ .fields #[] → (b = a → False) → H b = none := fun {b o} e n1 n2 => by
      cases q : H b with
      | none => rfl
      | some u =>
        rcases hA b (by rw [q]; simp) with z | z
        · subst z
          rw [hT] at e
          cases e
          exact (n1 rfl).elim
        · exact (n2 z.1).elim
    have low : ∀ {b : Addr} {o : Obj}, s₁.heap.get? b = some o → H b = none → (hidT s₁.heap H).get? b = some o := fun e n => hidT_get e n
    have apart : ∀ {b : Addr} {o : Obj}, s₁.heap.get? b = some o → (∀ us n, o.data ≠ .seq us n) → b = a → False := fun {b o} e n z => by
      subst z
      rw [ha] at e
      cases e
      exact n _ _ rfl
    have names : ∀ {b : Addr} {m : Str → Option Value}, s₁.heap.Ns b m → (hidT s₁.heap H).Ns b m := fun {b m} ⟨o, es, ep, e, d, r⟩ =>
      ⟨o, es, ep, low e (free e (by rw [d]; intro z; cases z) (apart e (by rw [d]; intro us n z; cases z))), d, r⟩
    have hK : K.In (hidT s₁.heap H) := fun b o e => low (KX b o e) (by
      cases q : H b with
      | none => rfl
      | some u =>
        rcases hA b (by rw [q]; simp) with z | ⟨z, zk⟩
        · subst z; rw [nT] at e; cases e
        · subst z; rw [zk] at e; cases e)
    have M : Mod K mg (hidT s₁.heap H) := ⟨hK, names hns, ⟨mb, names hb, hbb⟩, let ⟨mc, h1, h2⟩ := hlim; ⟨mc, names h1, h2⟩⟩
    have gP : mainGlobals ≠ Pt := by
      rintro rfl
      obtain ⟨o, es, ep, e, d, _⟩ := hns
      rw [hT] at e
      cases e
      cases d
    have TB : TabB (hidT s₁.heap H) mg c Pt := by
      refine ⟨?_, ?_, gP⟩
      · obtain ⟨o, us, file, tf, flags, tg, inF, text, tt, e1, r1, r2, r3, r4, r5, r6, r7, r8, hne⟩ := C
        refine ⟨o, us, file, tf, flags, tg, inF, text, tt, low e1 (free e1 (fun z => ?_) (apart e1 fun us n z => ?_)), r1, r2, r3, r4, r5, r6, r7, r8, hne⟩
        · rw [r2] at z
          cases z
          simp at r3
        · rw [r2] at z; cases z
      · obtain ⟨bm, ob, b1, b2, b3, b4, b5, b6⟩ := hbm
        refine ⟨bm, ob, b1, b2, fun z => ?_, fun z => ?_, low b3 (free b3 (by rw [b6]; intro z; cases z) (apart b3 (by rw [b6]; intro us n z; cases z))), b4, b5, b6⟩
        · obtain ⟨o, es, ep, e, d, _⟩ := hns
          rw [z, e] at b3
          cases b3
          rw [d] at b6; cases b6
        · rw [z, hT] at b3
          cases b3
          cases b6
    have e0 : Env0 Pr w K mg (hidT s₁.heap H) callerA [] s₁ H := ⟨rfl, M, fun b o e => of_hidT e, Nat.le_of_eq (hidT_size _ _), trivial, fun b z => absurd (show b ∈ ([] : List Addr) from z) (by simp), hok, .of_eq hg⟩
    refine codeAny_mono ((F _ hK (names hns) TB).run callerA [] s₁ H ⟨[.ref a], []⟩ [.ref a] [.ref a] _ _ rfl hr e0 (bind s₁ (.ref a)) (.cons rfl .nil) (ask H hP hS)) fun r s' h => ?_
    rcases r with e | fl
    · exact h.elim
    · rcases fl with _ | _ | _ | u
      · exact h.elim
      · exact h.elim
      · exact h.elim
      · obtain ⟨v, H', os, bare, un, hok', r', q⟩ := h
        obtain rfl : v = .bl true := q
        obtain rfl : u = Value.bool true := r'
        have same : ∀ b o, b ≠ Pt → s₁.heap.get? b = some o → s'.heap.get? b = some o := fun b o nb e => by
          cases q : H b with
          | none => exact un.keep b o e q (by intro z; exact absurd (show b ∈ ([] : List Addr) from z) (by simp)) (by simp)
          | some u =>
            rcases only b nb with z | ⟨ob, ys, z⟩
            · rw [q] at z; cases z
            · obtain ⟨e1, _⟩ := hok b _ z
              obtain ⟨e2, _⟩ := hok' b _ (un.frzs b ob _ z)
              rw [e] at e1; cases e1
              exact e2
        obtain ⟨more, grown⟩ : ∃ more : Array Value, s'.heap.get? Pt = some { cls := .none, data := .fields more } := by
          obtain ⟨more, z⟩ := un.tbls Pt #[] hP
          exact ⟨_, hok' Pt _ z⟩
        refine ⟨rfl, ⟨fun b o e => ?_, fun b o e => ?_⟩, os, bare⟩
        · by_cases nb : b = Pt
          · subst nb
            rw [hT] at e
            cases e
            exact .inr (.inl ⟨(C.tab hT).isCodeTable, rfl, #[], more, rfl, by rw [Array.empty_append]; exact grown⟩)
          · exact .inl (same b o nb e)
        · by_cases nb : b = Pt
          · subst nb
            exact ⟨_, grown⟩
          · exact ⟨o, same b o nb e⟩
  cases hk : K.lookup a with
  | some o =>
    have e := KX a o hk
    rw [ha] at e
    cases e
    refine from_ (fun b => if b = Pt then some (.tbl #[]) else none) (if_pos rfl) (fun b nb => .inl (if_neg nb)) (.inr ⟨_, vs.toArray, _, hk, rfl, rfl, rfl, by rw [List.size_toArray, lenV]; exact hl, by simpa using rv⟩) (fun b u z => ?_) fun b z => ?_
    · by_cases nb : b = Pt
      · subst nb
        have z' := (if_pos rfl).symm.trans z
        cases z'
        exact hT
      · have z' := (if_neg nb).symm.trans z
        cases z'
    · by_cases nb : b = Pt
      · exact .inl nb
      · exact absurd (if_neg nb) z
  | none =>
    refine from_ (fun b => if b = Pt then some (.tbl #[]) else if b = a then some (.frz { cls := .type "list", data := .seq vs.toArray } (.lst (ns.map V.int))) else none) (if_pos rfl) (fun b nb => ?_) (.inl (.inr ⟨_, (if_neg aP).trans (if_pos rfl)⟩)) (fun b u z => ?_) fun b z => ?_
    · by_cases n2 : b = a
      · exact .inr ⟨_, _, (if_neg nb).trans (if_pos n2)⟩
      · exact .inl ((if_neg nb).trans (if_neg n2))
    · by_cases nb : b = Pt
      · subst nb
        have z' := (if_pos rfl).symm.trans z
        cases z'
        exact hT
      · have z1 := (if_neg nb).symm.trans z
        by_cases n2 : b = a
        · subst n2
          have z' := (if_pos rfl).symm.trans z1
          cases z'
          exact ⟨ha, by rw [List.length_map]; exact hl, vs, _, rv, ha⟩
        · have z' := (if_neg n2).symm.trans z1
          cases z'
    · by_cases nb : b = Pt
      · exact .inl nb
      · by_cases n2 : b = a
        · exact .inr ⟨n2, hk⟩
        · exact absurd ((if_neg nb).trans (if_neg n2)) z
/-- a def of this name makes inner ones; its table is nobody else's -/
def tabB (K : PySem.W.Frag) (x : Str) : Bool := match PySem.W.tabIn K x with
  | some q => (K.lookup q.2).isNone
  | none => false
theorem tab_told {K : PySem.W.Frag} {x : Str} (h : tabB K x = true) : ∃ c Pt, PySem.W.tabIn K x = some (c, Pt) ∧ K.lookup Pt = none := by
  unfold tabB at h
  split at h
  · rename_i q hq
    exact ⟨q.1, q.2, hq, by simpa using h⟩
  · cases h
theorem walk_ofGT {l : PySem.W.OpenLaw} {n k : Nat} {q : Program} {loose : List Str} {XP : (Str → Option Value) → Heap → Prop} {YP : World → Heap → Prop} {d : DefRec} {K : Params → PySem.W.Frag} {sp : List NTab → PySem.W.Frag → Sp} {x y : Str} {nm : Nat → Nat → Str}
    (hn : l.most = some n) (hn2 : n ≤ sizeLine) (hdf : d.params.defaults = []) (hr : Room k callerA) (hY : ∀ (w : World) (h : Heap), YP w h → (K w.params).In h)
    (hrec : ((recsOf q).find? fun e => e.name == y).isSome = true) (htab : ∀ w : World, tabB (K w.params) y = true)
    (F : ∀ (w : World) (mg : Str → Option Value) (fa c Pt : Addr) (h : Heap), (K w.params).In h → h.Ns mainGlobals mg → mg d.name = some (.ref fa) → PySem.W.tabIn (K w.params) y = some (c, Pt) →
      ∃ fd : FuncData, (∀ (s : Shared) (u : Value), BindsTo s fd ⟨[u], []⟩ [(x, u)]) ∧ ∀ base : Heap, (K w.params).In base → base.Ns mainGlobals mg → TabB base mg c Pt → GnOk l.prog w (K w.params) mg base k fa fd [x] (sp [(Pt, nm)] (K w.params)))
    (ask : ∀ (K : PySem.W.Frag) (H : Hp) (a Pt : Addr) (ns : List Int), ns.length ≤ n → H Pt = some (.tbl #[]) → SqL K H a (ns.map V.int) → sp [(Pt, nm)] K [.ref a] H (fun v _ => v = .bl true) E0) :
    PySem.W.WalkO q loose XP YP l.row.toRowW d [] (fun f vs => PySem.call f vs) := by
  refine Att.attach_call hn hdf fun w s₀ s₁ mg mb fa o pm cd doc a vs ns G Y ho hd hcd hmg hobj hints hlen hg => ?_
  have KX := hY w _ Y
  obtain ⟨c, Pt, ht, nT⟩ := tab_told (htab w)
  obtain ⟨dd, hdd⟩ := Option.isSome_iff_exists.mp hrec
  obtain ⟨C, hT⟩ := PySem.W.tab_of G.T KX hdd ht
  obtain ⟨fd, hb, hF⟩ := F w mg fa c Pt _ KX G.T.g hmg ht
  exact law_callGT KX G.T.g G.T.b G.T.builtins G.T.nolimit hg hT nT C G.T.bmain hobj hints (Nat.le_trans hlen hn2) hr hF hb fun H hP hS => ask _ H a Pt ns hlen hP hS
end Rp

namespace Rp
open PySem L2
theorem all_mk {l : PySem.W.OpenLaw} {w : World} {K : PySem.W.Frag} {h : Heap} {mg : Str → Option Value} {fa f1 f2 f3 f4 f5 f6 f7 f8 f9 f10 f11 f12 f13 f14 f15 f16 f17 f18 f19 f20 f21 f22 f23 : Addr} (X : K.In h) (G : h.Ns mainGlobals mg) (hfa : mg "law" = some (.ref fa))
    {od1 an1 od2 an2 od3 an3 od4 an4 od5 an5 od6 an6 od7 an7 od8 an8 od9 an9 od10 an10 od11 an11 od12 an12 od13 an13 od14 an14 od15 an15 od16 an16 od17 an17 od18 an18 od19 an19 od20 an20 od21 an21 od22 an22 od23 an23 : Option Addr} {sl1 sl2 sl3 sl4 sl5 sl6 sl7 sl8 sl9 sl10 sl11 sl12 sl13 sl14 sl15 sl16 sl17 sl18 sl19 sl20 sl21 sl22 sl23 : Array (Option Value)} {oc1 kV1 dc1 pm1 cd1 ct1 oc2 kV2 dc2 pm2 cd2 ct2 oc3 kV3 dc3 pm3 cd3 ct3 oc4 kV4 dc4 pm4 cd4 ct4 oc5 kV5 dc5 pm5 cd5 ct5 oc6 kV6 dc6 pm6 cd6 ct6 oc7 kV7 dc7 pm7 cd7 ct7 oc8 kV8 dc8 pm8 cd8 ct8 oc9 kV9 dc9 pm9 cd9 ct9 oc10 kV10 dc10 pm10 cd10 ct10 oc11 kV11 dc11 pm11 cd11 ct11 oc12 kV12 dc12 pm12 cd12 ct12 oc13 kV13 dc13 pm13 cd13 ct13 oc14 kV14 dc14 pm14 cd14 ct14 oc15 kV15 dc15 pm15 cd15 ct15 oc16 kV16 dc16 pm16 cd16 ct16 oc17 kV17 dc17 pm17 cd17 ct17 oc18 kV18 dc18 pm18 cd18 ct18 oc19 kV19 dc19 pm19 cd19 ct19 oc20 kV20 dc20 pm20 cd20 ct20 oc21 kV21 dc21 pm21 cd21 ct21 oc22 kV22 dc22 pm22 cd22 ct22 oc23 kV23 dc23 pm23 cd23 ct23 : Value}
    {fS s1 s2 s3 : Addr} {tk : Tok} {odS od1_ od2_ od3_ : Option Addr} {nS n1_ n2_ n3_ : Nat} {slS sl1_ sl2_ sl3_ : Array (Option Value)} {t1 t2 t3 t4 t5 t6 : Tok} {c Pt : Addr} (ht : PySem.W.tabIn K "put" = some (c, Pt))
    (a1 : PySem.W.nsIn K mainGlobals "is_number" = some (some (.ref f1))) (l1 : K.lookup f1 = some ⟨oc1, od1, .func (PySem.W.fnOf "is_number" "is_number" (defArgs sNumber) (defBody sNumber) (defScope sNumber) .none kV1 dc1 pm1 an1 cd1 ct1), sl1⟩) (c1 : PySem.W.codeIn K cd1 "is_number" = true) (k1 : PySem.W.keepIn K (.ref f1) = true)
    (a2 : PySem.W.nsIn K mainGlobals "is_variable" = some (some (.ref f2))) (l2 : K.lookup f2 = some ⟨oc2, od2, .func (PySem.W.fnOf "is_variable" "is_variable" (defArgs sVariable) (defBody sVariable) (defScope sVariable) .none kV2 dc2 pm2 an2 cd2 ct2), sl2⟩) (c2 : PySem.W.codeIn K cd2 "is_variable" = true) (k2 : PySem.W.keepIn K (.ref f2) = true)
    (a3 : PySem.W.nsIn K mainGlobals "_has_shape" = some (some (.ref f3))) (l3 : K.lookup f3 = some ⟨oc3, od3, .func (PySem.W.fnOf "_has_shape" "_has_shape" (defArgs sShape) (defBody sShape) (defScope sShape) .none kV3 dc3 pm3 an3 cd3 ct3), sl3⟩) (c3 : PySem.W.codeIn K cd3 "_has_shape" = true) (k3 : PySem.W.keepIn K (.ref f3) = true)
    (a4 : PySem.W.nsIn K mainGlobals "is_term" = some (some (.ref f4))) (l4 : K.lookup f4 = some ⟨oc4, od4, .func (PySem.W.fnOf "is_term" "is_term" (defArgs sTerm) (defBody sTerm) (defScope sTerm) .none kV4 dc4 pm4 an4 cd4 ct4), sl4⟩) (c4 : PySem.W.codeIn K cd4 "is_term" = true) (k4 : PySem.W.keepIn K (.ref f4) = true)
    (a5 : PySem.W.nsIn K mainGlobals "_parts" = some (some (.ref f5))) (l5 : K.lookup f5 = some ⟨oc5, od5, .func (PySem.W.fnOf "_parts" "_parts" (defArgs sParts) (defBody sParts) (defScope sParts) .none kV5 dc5 pm5 an5 cd5 ct5), sl5⟩) (c5 : PySem.W.codeIn K cd5 "_parts" = true) (k5 : PySem.W.keepIn K (.ref f5) = true)
    (a6 : PySem.W.nsIn K mainGlobals "inside_out" = some (some (.ref f6))) (l6 : K.lookup f6 = some ⟨oc6, od6, .func (PySem.W.fnOf "inside_out" "inside_out" (defArgs sInside) (defBody sInside) (defScope sInside) .none kV6 dc6 pm6 an6 cd6 ct6), sl6⟩) (c6 : PySem.W.codeIn K cd6 "inside_out" = true) (k6 : PySem.W.keepIn K (.ref f6) = true)
    (a7 : PySem.W.nsIn K mainGlobals "fold" = some (some (.ref f7))) (l7 : K.lookup f7 = some ⟨oc7, od7, .func (PySem.W.fnOf "fold" "fold" (defArgs sFold) (defBody sFold) (defScope sFold) .none kV7 dc7 pm7 an7 cd7 ct7), sl7⟩) (c7 : PySem.W.codeIn K cd7 "fold" = true) (k7 : PySem.W.keepIn K (.ref f7) = true)
    (a8 : PySem.W.nsIn K mainGlobals "_is_pair" = some (some (.ref f8))) (l8 : K.lookup f8 = some ⟨oc8, od8, .func (PySem.W.fnOf "_is_pair" "_is_pair" (defArgs sIsPair) (defBody sIsPair) (defScope sIsPair) .none kV8 dc8 pm8 an8 cd8 ct8), sl8⟩) (c8 : PySem.W.codeIn K cd8 "_is_pair" = true) (k8 : PySem.W.keepIn K (.ref f8) = true)
    (a9 : PySem.W.nsIn K mainGlobals "is_binding" = some (some (.ref f9))) (l9 : K.lookup f9 = some ⟨oc9, od9, .func (PySem.W.fnOf "is_binding" "is_binding" (defArgs sIsBinding) (defBody sIsBinding) (defScope sIsBinding) .none kV9 dc9 pm9 an9 cd9 ct9), sl9⟩) (c9 : PySem.W.codeIn K cd9 "is_binding" = true) (k9 : PySem.W.keepIn K (.ref f9) = true)
    (a10 : PySem.W.nsIn K mainGlobals "put" = some (some (.ref f10))) (l10 : K.lookup f10 = some ⟨oc10, od10, .func (PySem.W.fnOf "put" "put" (defArgs sPut) (defBody sPut) (defScope sPut) .none kV10 dc10 pm10 an10 cd10 ct10), sl10⟩) (c10 : PySem.W.codeIn K cd10 "put" = true) (k10 : PySem.W.keepIn K (.ref f10) = true)
    (a11 : PySem.W.nsIn K mainGlobals "_law_box" = some (some (.ref f11))) (l11 : K.lookup f11 = some ⟨oc11, od11, .func (PySem.W.fnOf "_law_box" "_law_box" (defArgs sBox) (defBody sBox) (defScope sBox) .none kV11 dc11 pm11 an11 cd11 ct11), sl11⟩) (c11 : PySem.W.codeIn K cd11 "_law_box" = true) (k11 : PySem.W.keepIn K (.ref f11) = true)
    (a12 : PySem.W.nsIn K mainGlobals "_law_take" = some (some (.ref f12))) (l12 : K.lookup f12 = some ⟨oc12, od12, .func (PySem.W.fnOf "_law_take" "_law_take" (defArgs sTake) (defBody sTake) (defScope sTake) .none kV12 dc12 pm12 an12 cd12 ct12), sl12⟩) (c12 : PySem.W.codeIn K cd12 "_law_take" = true) (k12 : PySem.W.keepIn K (.ref f12) = true)
    (a13 : PySem.W.nsIn K mainGlobals "_law_pick" = some (some (.ref f13))) (l13 : K.lookup f13 = some ⟨oc13, od13, .func (PySem.W.fnOf "_law_pick" "_law_pick" (defArgs sPick) (defBody sPick) (defScope sPick) .none kV13 dc13 pm13 an13 cd13 ct13), sl13⟩) (c13 : PySem.W.codeIn K cd13 "_law_pick" = true) (k13 : PySem.W.keepIn K (.ref f13) = true)
    (a14 : PySem.W.nsIn K mainGlobals "_law_same" = some (some (.ref f14))) (l14 : K.lookup f14 = some ⟨oc14, od14, .func (PySem.W.fnOf "_law_same" "_law_same" (defArgs sSame) (defBody sSame) (defScope sSame) .none kV14 dc14 pm14 an14 cd14 ct14), sl14⟩) (c14 : PySem.W.codeIn K cd14 "_law_same" = true) (k14 : PySem.W.keepIn K (.ref f14) = true)
    (a15 : PySem.W.nsIn K mainGlobals "_law_tree" = some (some (.ref f15))) (l15 : K.lookup f15 = some ⟨oc15, od15, .func (PySem.W.fnOf "_law_tree" "_law_tree" (defArgs sTree) (defBody sTree) (defScope sTree) .none kV15 dc15 pm15 an15 cd15 ct15), sl15⟩) (c15 : PySem.W.codeIn K cd15 "_law_tree" = true) (k15 : PySem.W.keepIn K (.ref f15) = true)
    (a16 : PySem.W.nsIn K mainGlobals "_law_fresh" = some (some (.ref f16))) (l16 : K.lookup f16 = some ⟨oc16, od16, .func (PySem.W.fnOf "_law_fresh" "_law_fresh" (defArgs sFresh) (defBody sFresh) (defScope sFresh) .none kV16 dc16 pm16 an16 cd16 ct16), sl16⟩) (c16 : PySem.W.codeIn K cd16 "_law_fresh" = true) (k16 : PySem.W.keepIn K (.ref f16) = true)
    (a17 : PySem.W.nsIn K mainGlobals "_law_put" = some (some (.ref f17))) (l17 : K.lookup f17 = some ⟨oc17, od17, .func (PySem.W.fnOf "_law_put" "_law_put" (defArgs sPutL) (defBody sPutL) (defScope sPutL) .none kV17 dc17 pm17 an17 cd17 ct17), sl17⟩) (c17 : PySem.W.codeIn K cd17 "_law_put" = true) (k17 : PySem.W.keepIn K (.ref f17) = true)
    (a18 : PySem.W.nsIn K mainGlobals "_law_pairs" = some (some (.ref f18))) (l18 : K.lookup f18 = some ⟨oc18, od18, .func (PySem.W.fnOf "_law_pairs" "_law_pairs" (defArgs sPairs) (defBody sPairs) (defScope sPairs) .none kV18 dc18 pm18 an18 cd18 ct18), sl18⟩) (c18 : PySem.W.codeIn K cd18 "_law_pairs" = true) (k18 : PySem.W.keepIn K (.ref f18) = true)
    (a19 : PySem.W.nsIn K mainGlobals "_law_is_tree" = some (some (.ref f19))) (l19 : K.lookup f19 = some ⟨oc19, od19, .func (PySem.W.fnOf "_law_is_tree" "_law_is_tree" (defArgs sIsTree) (defBody sIsTree) (defScope sIsTree) .none kV19 dc19 pm19 an19 cd19 ct19), sl19⟩) (c19 : PySem.W.codeIn K cd19 "_law_is_tree" = true) (k19 : PySem.W.keepIn K (.ref f19) = true)
    (a20 : PySem.W.nsIn K mainGlobals "_law_is_pairs" = some (some (.ref f20))) (l20 : K.lookup f20 = some ⟨oc20, od20, .func (PySem.W.fnOf "_law_is_pairs" "_law_is_pairs" (defArgs sIsPairs) (defBody sIsPairs) (defScope sIsPairs) .none kV20 dc20 pm20 an20 cd20 ct20), sl20⟩) (c20 : PySem.W.codeIn K cd20 "_law_is_pairs" = true) (k20 : PySem.W.keepIn K (.ref f20) = true)
    (a21 : PySem.W.nsIn K mainGlobals "_law_odd" = some (some (.ref f21))) (l21 : K.lookup f21 = some ⟨oc21, od21, .func (PySem.W.fnOf "_law_odd" "_law_odd" (defArgs sOdd) (defBody sOdd) (defScope sOdd) .none kV21 dc21 pm21 an21 cd21 ct21), sl21⟩) (c21 : PySem.W.codeIn K cd21 "_law_odd" = true) (k21 : PySem.W.keepIn K (.ref f21) = true)
    (a22 : PySem.W.nsIn K mainGlobals "_law_right" = some (some (.ref f22))) (l22 : K.lookup f22 = some ⟨oc22, od22, .func (PySem.W.fnOf "_law_right" "_law_right" (defArgs sRight) (defBody sRight) (defScope sRight) .none kV22 dc22 pm22 an22 cd22 ct22), sl22⟩) (c22 : PySem.W.codeIn K cd22 "_law_right" = true) (k22 : PySem.W.keepIn K (.ref f22) = true)
    (a23 : PySem.W.nsIn K mainGlobals "law" = some (some (.ref f23))) (l23 : K.lookup f23 = some ⟨oc23, od23, .func (PySem.W.fnOf "law" "law" (defArgs sLaw) (defBody sLaw) (defScope sLaw) .none kV23 dc23 pm23 an23 cd23 ct23), sl23⟩) (c23 : PySem.W.codeIn K cd23 "law" = true) (k23 : PySem.W.keepIn K (.ref f23) = true)
    (z1 : PySem.W.nsIn K mainGlobals "isinstance" = some none)
    (z2 : PySem.W.nsIn K mainGlobals "int" = some none)
    (z3 : PySem.W.nsIn K mainGlobals "len" = some none)
    (z4 : PySem.W.nsIn K mainGlobals "sorted" = some none)
    (z5 : PySem.W.nsIn K mainGlobals "list" = some none)
    (z6 : PySem.W.nsIn K mainGlobals "tuple" = some none)
    (z7 : PySem.W.nsIn K mainGlobals "all" = some none)
    (z8 : PySem.W.nsIn K mainGlobals "zip" = some none)
    (z9 : PySem.W.nsIn K mainGlobals "str" = some none)
    (z10 : PySem.W.nsIn K mainGlobals "bool" = some none)
    (z11 : PySem.W.nsIn K mainGlobals "range" = some none)
    (z12 : PySem.W.nsIn K mainGlobals "abs" = some none)
    (z13 : PySem.W.nsIn K mainGlobals "repr" = some none)
    (z14 : PySem.W.nsIn K mainGlobals "dict" = some none)
    (z15 : PySem.W.nsIn K mainGlobals "min" = some none)
    (xV : PySem.W.nsIn K mainGlobals "LAST_VARIABLE" = some (some (.int 99 tk)))
    (xS : PySem.W.nsIn K mainGlobals "SHAPES" = some (some (.ref fS)))
    (xL : K.lookup fS = some ⟨.type "tuple", odS, .seq #[.ref s1, .ref s2, .ref s3] nS, slS⟩)
    (x1 : K.lookup s1 = some ⟨.type "tuple", od1_, .seq #[.str "0" t1, .int 1 t2] n1_, sl1_⟩)
    (x2 : K.lookup s2 = some ⟨.type "tuple", od2_, .seq #[.str "s" t3, .int 2 t4] n2_, sl2_⟩)
    (x3 : K.lookup s3 = some ⟨.type "tuple", od3_, .seq #[.str "f" t5, .int 3 t6] n3_, sl3_⟩)
    : ∃ fd : FuncData, (∀ (s : Shared) (v : Value), BindsTo s fd ⟨[v], []⟩ [("_law_script", v)]) ∧ ∀ base : Heap, K.In base → base.Ns mainGlobals mg → LamX.TabB base mg c Pt → GnOk l.prog w K mg base 69 fa fd ["_law_script"] (spLaw [(Pt, nmEx)] K) := by
  have e := hfa.symm.trans (PySem.W.mg_of X G a23)
  cases e
  have F1 := fun_mk (st := sNumber) l1 c1 k1
  have b1 := F1.binds (ps := ["thing"]) fun _ _ _ _ _ _ us hl => match us, hl with | [_], _ => rfl
  have m1 := PySem.W.mg_of X G a1
  have F2 := fun_mk (st := sVariable) l2 c2 k2
  have b2 := F2.binds (ps := ["thing"]) fun _ _ _ _ _ _ us hl => match us, hl with | [_], _ => rfl
  have m2 := PySem.W.mg_of X G a2
  have F3 := fun_mk (st := sShape) l3 c3 k3
  have b3 := F3.binds (ps := ["thing"]) fun _ _ _ _ _ _ us hl => match us, hl with | [_], _ => rfl
  have m3 := PySem.W.mg_of X G a3
  have F4 := fun_mk (st := sTerm) l4 c4 k4
  have b4 := F4.binds (ps := ["thing"]) fun _ _ _ _ _ _ us hl => match us, hl with | [_], _ => rfl
  have m4 := PySem.W.mg_of X G a4
  have F5 := fun_mk (st := sParts) l5 c5 k5
  have b5 := F5.binds (ps := ["term"]) fun _ _ _ _ _ _ us hl => match us, hl with | [_], _ => rfl
  have m5 := PySem.W.mg_of X G a5
  have F6 := fun_mk (st := sInside) l6 c6 k6
  have b6 := F6.binds (ps := ["term"]) fun _ _ _ _ _ _ us hl => match us, hl with | [_], _ => rfl
  have m6 := PySem.W.mg_of X G a6
  have F7 := fun_mk (st := sFold) l7 c7 k7
  have b7 := F7.binds (ps := ["term", "made_of"]) fun _ _ _ _ _ _ us hl => match us, hl with | [_, _], _ => rfl
  have m7 := PySem.W.mg_of X G a7
  have F8 := fun_mk (st := sIsPair) l8 c8 k8
  have b8 := F8.binds (ps := ["thing"]) fun _ _ _ _ _ _ us hl => match us, hl with | [_], _ => rfl
  have m8 := PySem.W.mg_of X G a8
  have F9 := fun_mk (st := sIsBinding) l9 c9 k9
  have b9 := F9.binds (ps := ["thing"]) fun _ _ _ _ _ _ us hl => match us, hl with | [_], _ => rfl
  have m9 := PySem.W.mg_of X G a9
  have F10 := fun_mk (st := sPut) l10 c10 k10
  have b10 := F10.binds (ps := ["term", "binding"]) fun _ _ _ _ _ _ us hl => match us, hl with | [_, _], _ => rfl
  have m10 := PySem.W.mg_of X G a10
  have F11 := fun_mk (st := sBox) l11 c11 k11
  have b11 := F11.binds (ps := ["_law_script", "_law_k"]) fun _ _ _ _ _ _ us hl => match us, hl with | [_, _], _ => rfl
  have m11 := PySem.W.mg_of X G a11
  have F12 := fun_mk (st := sTake) l12 c12 k12
  have b12 := F12.binds (ps := ["_law_box_here", "_law_count"]) fun _ _ _ _ _ _ us hl => match us, hl with | [_, _], _ => rfl
  have m12 := PySem.W.mg_of X G a12
  have F13 := fun_mk (st := sPick) l13 c13 k13
  have b13 := F13.binds (ps := ["_law_box_here", "_law_things"]) fun _ _ _ _ _ _ us hl => match us, hl with | [_, _], _ => rfl
  have m13 := PySem.W.mg_of X G a13
  have F14 := fun_mk (st := sSame) l14 c14 k14
  have b14 := F14.binds (ps := ["_law_found", "_law_due"]) fun _ _ _ _ _ _ us hl => match us, hl with | [_, _], _ => rfl
  have m14 := PySem.W.mg_of X G a14
  have F15 := fun_mk (st := sTree) l15 c15 k15
  have b15 := F15.binds (ps := ["_law_box_here", "_law_room", "_law_fresh_here"]) fun _ _ _ _ _ _ us hl => match us, hl with | [_, _, _], _ => rfl
  have m15 := PySem.W.mg_of X G a15
  have F16 := fun_mk (st := sFresh) l16 c16 k16
  have b16 := F16.binds (ps := ["_law_box_here"]) fun _ _ _ _ _ _ us hl => match us, hl with | [_], _ => rfl
  have m16 := PySem.W.mg_of X G a16
  have F17 := fun_mk (st := sPutL) l17 c17 k17
  have b17 := F17.binds (ps := ["_law_term", "_law_pairs_here"]) fun _ _ _ _ _ _ us hl => match us, hl with | [_, _], _ => rfl
  have m17 := PySem.W.mg_of X G a17
  have F18 := fun_mk (st := sPairs) l18 c18 k18
  have b18 := F18.binds (ps := ["_law_box_here", "_law_fresh_here", "_law_room"]) fun _ _ _ _ _ _ us hl => match us, hl with | [_, _, _], _ => rfl
  have m18 := PySem.W.mg_of X G a18
  have F19 := fun_mk (st := sIsTree) l19 c19 k19
  have b19 := F19.binds (ps := ["_law_thing"]) fun _ _ _ _ _ _ us hl => match us, hl with | [_], _ => rfl
  have m19 := PySem.W.mg_of X G a19
  have F20 := fun_mk (st := sIsPairs) l20 c20 k20
  have b20 := F20.binds (ps := ["_law_thing"]) fun _ _ _ _ _ _ us hl => match us, hl with | [_], _ => rfl
  have m20 := PySem.W.mg_of X G a20
  have F21 := fun_mk (st := sOdd) l21 c21 k21
  have b21 := F21.binds (ps := ["_law_box_here", "_law_pairs_here"]) fun _ _ _ _ _ _ us hl => match us, hl with | [_, _], _ => rfl
  have m21 := PySem.W.mg_of X G a21
  have F22 := fun_mk (st := sRight) l22 c22 k22
  have b22 := F22.binds (ps := ["_law_box_here"]) fun _ _ _ _ _ _ us hl => match us, hl with | [_], _ => rfl
  have m22 := PySem.W.mg_of X G a22
  have F23 := fun_mk (st := sLaw) l23 c23 k23
  have y1 := PySem.W.mg_none_of X G z1
  have y2 := PySem.W.mg_none_of X G z2
  have y3 := PySem.W.mg_none_of X G z3
  have y4 := PySem.W.mg_none_of X G z4
  have y5 := PySem.W.mg_none_of X G z5
  have y6 := PySem.W.mg_none_of X G z6
  have y7 := PySem.W.mg_none_of X G z7
  have y8 := PySem.W.mg_none_of X G z8
  have y9 := PySem.W.mg_none_of X G z9
  have y10 := PySem.W.mg_none_of X G z10
  have y11 := PySem.W.mg_none_of X G z11
  have y12 := PySem.W.mg_none_of X G z12
  have y13 := PySem.W.mg_none_of X G z13
  have y14 := PySem.W.mg_none_of X G z14
  have y15 := PySem.W.mg_none_of X G z15
  refine ⟨PySem.W.fnOf "law" "law" (defArgs sLaw) (defBody sLaw) (defScope sLaw) .none kV23 dc23 pm23 an23 cd23 ct23, fun s v => .of_eq rfl, fun base _ _ TB => ?_⟩
  have c0 : ∀ H, SqT K H fS [V.ref s1, .ref s2, .ref s3] := fun H => .inr ⟨_, _, _, xL, rfl, rfl, (by show 3 ≤ sizeLine; decide), .cons rfl (.cons rfl (.cons rfl .nil))⟩
  have c1 : ∀ H, SqT K H s1 [V.str "0", .int 1] := fun H => .inr ⟨_, _, _, x1, rfl, rfl, (by show 2 ≤ sizeLine; decide), .cons ⟨_, rfl⟩ (.cons ⟨_, rfl⟩ .nil)⟩
  have c2 : ∀ H, SqT K H s2 [V.str "s", .int 2] := fun H => .inr ⟨_, _, _, x2, rfl, rfl, (by show 2 ≤ sizeLine; decide), .cons ⟨_, rfl⟩ (.cons ⟨_, rfl⟩ .nil)⟩
  have c3 : ∀ H, SqT K H s3 [V.str "f", .int 3] := fun H => .inr ⟨_, _, _, x3, rfl, rfl, (by show 2 ≤ sizeLine; decide), .cons ⟨_, rfl⟩ (.cons ⟨_, rfl⟩ .nil)⟩
  have hS : ∀ H, Dp K H (.ref fS) shapesD := fun H =>
    .tup (c0 H) (.cons (.tup (c1 H) (.cons (.str _) (.cons (.int _) .nil))) (.cons (.tup (c2 H) (.cons (.str _) (.cons (.int _) .nil))) (.cons (.tup (c3 H) (.cons (.str _) (.cons (.int _) .nil))) .nil)))
  have M : SameG mg := ⟨y1, y5, y6, y3, y7, y8, y9, y2, y10⟩
  have hcode := PySem.W.law_code X G ht m10 (X _ _ l10) rfl
  have GN := ok_number (P := l.prog) (w := w) (base := base) F1 M
  have GVa := ok_variable F2 GN k1 b1 m1 (PySem.W.mg_of X G xV)
  have GSh := ok_shape (P := l.prog) (w := w) (base := base) F3 M (PySem.W.mg_of X G xS) hS
  have GTe := ok_term F4 GSh k3 b3 m3 GVa k2 b2 m2
  have GP := ok_parts (P := l.prog) (w := w) (base := base) F5 y1 y2
  have GI := ok_inside (P := l.prog) (w := w) (base := base) F6 F5 b5 m5 y1 y2
  have GF := ok_fold F7 GI k6 b6 m6 GP k5 b5 m5 y3 y1 y2
  have GIp := ok_ispr F8 GVa k2 b2 m2 GTe k4 b4 m4 M
  have GBi := ok_isbd F9 GIp k8 b8 m8 M
  have GU := ok_put F10 hcode TB GF k7 b7 m7 y14
  have GB := ok_box (P := l.prog) (w := w) (base := base) F11 y3 y12 y2
  have GT := ok_take (P := l.prog) (w := w) (mg := mg) (base := base) F12
  have GPk := ok_pick (P := l.prog) (w := w) (base := base) F13 F12 b12 m12 y3
  have GS := same_ok (P := l.prog) (w := w) (base := base) F14 b14 m14 M 62
  have GTr := trees_ok (P := l.prog) (w := w) (base := base) F15 b15 m15 F12 b12 m12 F13 b13 m13 y3 y5 64
  have GFr := ok_fresh1 (P := l.prog) (w := w) (base := base) F16 F12 b12 m12 y11 y2
  have GLP := lput_ok (P := l.prog) (w := w) (base := base) F17 b17 m17 y1 y2 y6 y14 50
  have GPa := ok_pairs F18 GT k12 b12 m12 GTr k15 b15 m15 GFr k16 b16 m16 y5 y4 y6
  have GIt := istree_ok (P := l.prog) (w := w) (base := base) F19 b19 m19 M 61
  have GPs := ok_isps F20 GIt k19 b19 m19 M
  have GOd := ok_odd F21 GT k12 b12 m12 GPk k13 b13 m13 y3 y5
  have GR := ok_right F22 GT k12 b12 m12 GFr k16 b16 m16 GTr k15 b15 m15 GPa k18 b18 m18 GLP k17 b17 m17 GU k10 b10 m10 GBi k9 b9 m9 GOd k21 b21 m21 GPs k20 b20 m20 GS k14 b14 m14 y11 y13
  exact ok_law F23 GB k11 b11 m11 GR k22 b22 m22 GBi k9 b9 m9 y11 y15 y3 y7
theorem walk {l : PySem.W.OpenLaw} {q : Program} {loose : List Str} {XP : (Str → Option Value) → Heap → Prop} {YP : World → Heap → Prop} {d : DefRec} {K : Params → PySem.W.Frag} (hn : l.most = some 63) (hdf : d.params.defaults = [])
    (hY : ∀ (w : World) (h : Heap), YP w h → (K w.params).In h) (hrec : ((PyProof.Rows.recsOf q).find? fun e => e.name == ("put" : Str)).isSome = true) (htab : ∀ w : World, tabB (K w.params) "put" = true)
    (F : ∀ (w : World) (mg : Str → Option Value) (fa c Pt : Addr) (h : Heap), (K w.params).In h → h.Ns mainGlobals mg → mg d.name = some (.ref fa) → PySem.W.tabIn (K w.params) "put" = some (c, Pt) →
      ∃ fd : FuncData, (∀ (s : Shared) (u : Value), BindsTo s fd ⟨[u], []⟩ [("_law_script", u)]) ∧ ∀ base : Heap, (K w.params).In base → base.Ns mainGlobals mg → LamX.TabB base mg c Pt → GnOk l.prog w (K w.params) mg base 69 fa fd ["_law_script"] (spLaw [(Pt, nmEx)] (K w.params))) :
    PySem.W.WalkO q loose XP YP l.row.toRowW d [] (fun f vs => PySem.call f vs) :=
  walk_ofGT (n := 63) (k := 69) (x := "_law_script") (sp := spLaw) (nm := nmEx) hn (by decide) hdf ⟨rfl, by decide, by decide⟩ hY hrec htab F
    (fun _ _ a Pt ns hl hP hS => ⟨a, ns, rfl, hS, hl, fun p hp => by rw [List.mem_singleton.mp hp]; exact NdefX.TabN.nil hP, fun _ => rfl⟩)
end Rp
open PySem PySem.W PyProof.Rows
set_option maxRecDepth 100000 in
set_option maxHeartbeats 0 in
theorem PySem.Challenge.cw_ringproofs_k04_put_all_at_once_holds : PySem.Challenge.rw_ringproofs_k04_put_all_at_once.Holds := by
  w_on; o_law; k_head; (case hw => w_witness2)
  k_fill
  refine Rp.walk (l := PySem.Challenge.rw_ringproofs_k04_put_all_at_once) rfl rfl (fun w h Y => PySem.W.km_in_of Y) ?hR ?hT ?F
  case hR => kernel_rfl
  case hT => intro w; kernel_rfl
  case F =>
    intro w mg fa c Pt h KX G hmg ht
    refine' Rp.all_mk KX G hmg ht ?a1 ?l1 ?c1 ?k1 ?a2 ?l2 ?c2 ?k2 ?a3 ?l3 ?c3 ?k3 ?a4 ?l4 ?c4 ?k4 ?a5 ?l5 ?c5 ?k5 ?a6 ?l6 ?c6 ?k6 ?a7 ?l7 ?c7 ?k7 ?a8 ?l8 ?c8 ?k8 ?a9 ?l9 ?c9 ?k9 ?a10 ?l10 ?c10 ?k10 ?a11 ?l11 ?c11 ?k11 ?a12 ?l12 ?c12 ?k12 ?a13 ?l13 ?c13 ?k13 ?a14 ?l14 ?c14 ?k14 ?a15 ?l15 ?c15 ?k15 ?a16 ?l16 ?c16 ?k16 ?a17 ?l17 ?c17 ?k17 ?a18 ?l18 ?c18 ?k18 ?a19 ?l19 ?c19 ?k19 ?a20 ?l20 ?c20 ?k20 ?a21 ?l21 ?c21 ?k21 ?a22 ?l22 ?c22 ?k22 ?a23 ?l23 ?c23 ?k23 ?z1 ?z2 ?z3 ?z4 ?z5 ?z6 ?z7 ?z8 ?z9 ?z10 ?z11 ?z12 ?z13 ?z14 ?z15 ?xV ?xS ?xL ?x1 ?x2 ?x3
    (case a1 => k_is); (case l1 => k_is); (case c1 => k_is); (case k1 => k_is)
    (case a2 => k_is); (case l2 => k_is); (case c2 => k_is); (case k2 => k_is)
    (case a3 => k_is); (case l3 => k_is); (case c3 => k_is); (case k3 => k_is)
    (case a4 => k_is); (case l4 => k_is); (case c4 => k_is); (case k4 => k_is)
    (case a5 => k_is); (case l5 => k_is); (case c5 => k_is); (case k5 => k_is)
    (case a6 => k_is); (case l6 => k_is); (case c6 => k_is); (case k6 => k_is)
    (case a7 => k_is); (case l7 => k_is); (case c7 => k_is); (case k7 => k_is)
    (case a8 => k_is); (case l8 => k_is); (case c8 => k_is); (case k8 => k_is)
    (case a9 => k_is); (case l9 => k_is); (case c9 => k_is); (case k9 => k_is)
    (case a10 => k_is); (case l10 => k_is); (case c10 => k_is); (case k10 => k_is)
    (case a11 => k_is); (case l11 => k_is); (case c11 => k_is); (case k11 => k_is)
    (case a12 => k_is); (case l12 => k_is); (case c12 => k_is); (case k12 => k_is)
    (case a13 => k_is); (case l13 => k_is); (case c13 => k_is); (case k13 => k_is)
    (case a14 => k_is); (case l14 => k_is); (case c14 => k_is); (case k14 => k_is)
    (case a15 => k_is); (case l15 => k_is); (case c15 => k_is); (case k15 => k_is)
    (case a16 => k_is); (case l16 => k_is); (case c16 => k_is); (case k16 => k_is)
    (case a17 => k_is); (case l17 => k_is); (case c17 => k_is); (case k17 => k_is)
    (case a18 => k_is); (case l18 => k_is); (case c18 => k_is); (case k18 => k_is)
    (case a19 => k_is); (case l19 => k_is); (case c19 => k_is); (case k19 => k_is)
    (case a20 => k_is); (case l20 => k_is); (case c20 => k_is); (case k20 => k_is)
    (case a21 => k_is); (case l21 => k_is); (case c21 => k_is); (case k21 => k_is)
    (case a22 => k_is); (case l22 => k_is); (case c22 => k_is); (case k22 => k_is)
    (case a23 => k_is); (case l23 => k_is); (case c23 => k_is); (case k23 => k_is)
    (case z1 => k_is); (case z2 => k_is); (case z3 => k_is); (case z4 => k_is)
    (case z5 => k_is); (case z6 => k_is); (case z7 => k_is); (case z8 => k_is)
    (case z9 => k_is); (case z10 => k_is); (case z11 => k_is); (case z12 => k_is)
    (case z13 => k_is); (case z14 => k_is); (case z15 => k_is); (case xV => k_is)
    (case xS => k_is); (case xL => k_is); (case x1 => k_is); (case x2 => k_is)
    (case x3 => k_is)

