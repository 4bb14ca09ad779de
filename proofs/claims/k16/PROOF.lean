import PyProof.Rows.All
import Wide.All
import OpenK.AllK
import Wide.FinOn
import HandS.ForMost
import HandS.IsInst
import HandS.Style
import HandS.Set
import HandS.Strs
import HandS.SetBool
import HandS.SetFor
import PySem.Challenge.RW_ringproofs_k16_definitions_by_names
import HandS.Zip
import HandS.FStr
import HandS.Text
import HandS.CallLocal
import HandS.Codes
import PyProof.StrLaws
import HandS.Rev
import HandS.StrMore
import HandS.ReplaceLit
import HandS.ReplaceDef
import HandS.Deep
import HandS.Flow
import PyProof.Rows.RegFStrParts
import KE.KUnpackStar
import HandS.Walk
import HandS.Steps
import HandS.Star
import HandS.Conv
import KE.KDictPairs
import HandS.Nested
import HandS.SetKeys
import HandS.Exc
import HandS.ExcValue
import HandS.ExcField
import HandS.ExcIs
import KE.KExcIs
import HandS.More
import HandS.ExcInit
import HandS.WordsExc
import HandS.DictComp
import KE.KDictWalk
import HandS.Defaults
import HandS.ExcOwn
import HandS.Call
import OpenK.KMore
import HandS.OwnEq
import PyProof.InstEq
import HandS.TryOnly
import PyProof.P3Eq
import HandS.TupMul
import HandS.MakeKwOnly
import HandS.EndTab
import KE.KNest
import HandS.MakeKw
set_option Elab.async false
set_option linter.all false
set_option maxRecDepth 100000
set_option maxHeartbeats 4000000
/-! Two rules that the layer lacks: a comprehension that makes a set of ints, and set(xs) of a list of ints whose table is known well enough to be sorted afterwards. -/
namespace Rp
open PySem PySem.Spec PyProof.Rows L2 PpSet

section addi
variable {X : Cx}
/-- an int goes into a tracked set of ints -/
theorem putInt {pins : List (Addr × Obj)} {σ : L2.St} {H : Hp} {s : Shared} {E : Value → Shared → Prop} {D : Addr} {S : Int → Bool} {n : Nat} {y : Int} {t : Tok} {Q : Value → Shared → Prop}
    (I : Inv X pins σ H s) (hD : H D = some (SetO X.w D S n)) (few : n + 1 < scanBound)
    (go : ∀ s', Inv X pins σ (upd H D (SetO X.w D (fun j => S j || decide (j = y)) (if S y = true then n else n + 1))) s' → Q .none s') :
    wpAny (model X.prog X.w) X.A (call (.builtin "set.add") [.ref D, .int y t]) Q E s :=
  setR_add (setO_get I hD) few fun h' same now =>
    have there : ∃ u, h'.get? D = some u := let ⟨o, _, _, _, ho, _⟩ := now; ⟨o, ho⟩
    go _ (I.write (e := D) (t' := s.toks + 1) (by rw [hD]; trivial) (.inl rfl) (fun b u ne hu => (same.2 b ne).trans hu) there (setO_new now))

/-- what {e for x in .. if ..} asks where e is an int -/
def tScI (w : World) (wi : TI) (g : TG) (tt : TT) (te : TE) (vs : List Nat) : TE := fun σ H Q => wi σ H fun J H1 => ∀ D, H1 D = none →
  ∃ W : Nat → Nat → Hp → Prop, (∃ m, W 0 m (upd H1 D (SetO w D (fun _ => false) 0))) ∧ ∀ i m H, W i m H → (J.stop i H ∧ Q (.ref D) H) ∨
    (J.go i H ∧ ∃ Nx : Hp → Prop, (∀ H', Nx H' → ∃ m', m' < m ∧ W (i + 1) m' H') ∧ ∀ x H', J.yld i H x H' → g x (wipe σ vs) H' fun σ2 H2 => wipe σ2 vs = wipe σ vs ∧
      tt σ2 H2 fun b H3 => if b = true then te σ2 H3 fun y H4 => ∃ (k : Int) (S : Int → Bool) (n : Nat), y = .int k ∧ H4 D = some (SetO w D S n) ∧ n + 1 < scanBound ∧
        Nx (upd H4 D (SetO w D (fun j => S j || decide (j = k)) (if S k = true then n else n + 1))) else Nx H3)

abbrev emptySet (w : World) : Obj := { cls := .type "set", dict := none, data := .set #[] 0 (.fresh 0 0 (!w.params.followText "set-order")) }

theorem pe_scI {elt tg iter : Expr} {ifs : List Expr} {scope : Scope} {own : List (PySem.Str × Nat)} {pos : Pos} {wi : TI} {g : TG} {tt : TT} {te : TE}
    (hc : X.calm = true) (hN : X.N.Nodup) (hi : PI X tg iter wi) (ok : BlkOk X.N X.env.scope scope own)
    (hg : ∀ (s : Shared) (H : Hp) (C : Addr) (cl : List (PySem.Str × Addr)) (fp : List Addr), PG (X.blk s H scope (compEnvC scope cl C X.env) fp) tg g)
    (ht : ∀ (s : Shared) (H : Hp) (C : Addr) (cl : List (PySem.Str × Addr)) (fp : List Addr), PTs (X.blk s H scope (compEnvC scope cl C X.env) fp) ifs tt)
    (he : ∀ (s : Shared) (H : Hp) (C : Addr) (cl : List (PySem.Str × Addr)) (fp : List Addr), PE (X.blk s H scope (compEnvC scope cl C X.env) fp) elt te)
    (hs : ∀ x, foldedSetIterable iter X.env x = pure x := by intro _; rfl) :
    PE X (.SetComp elt [⟨tg, iter, ifs, 0⟩] scope pos) (tScI X.w wi g tt te (own.map (·.2))) := by
  refine ⟨fun pins s σ H Q I h => ?_⟩
  rw [eval_SetComp]
  have caught : ∀ y ∈ scope.names, y.2 = .free → ∃ c, X.env.cells.lookup y.1 = some c := fun y hy e =>
    (ok.free y hy e).elim (fun k => I.ok.has _ (.inl k)) fun k => I.ok.has _ (.inr k)
  refine wpAny_comprehension_free (use := none) rfl hs (closure_ok caught) ok.kind (fun y hy e => (ok.uniq y hy).trans (by rw [e])) (thn (hi.run pins s σ H _ I h) fun xv s1 hx => thn hx fun itv s2 h2 => ?_)
  obtain ⟨it, fp, tn, J, H2, rfl, I2, T, st2, f2, q⟩ := h2
  refine newSet_ok (newEnv_comp ?_)
  -- the new set's place
  obtain ⟨D, hD⟩ : ∃ D, s2.heap.objs.size = D := ⟨_, rfl⟩
  rw [hD]
  obtain ⟨W, ⟨m0, w0⟩, turn⟩ := q D (I2.hok.fresh (Nat.le_of_eq hD))
  obtain ⟨s3, hs3⟩ : ∃ s3 : Shared, { s2 with heap := s2.heap.push (emptySet X.w) } = s3 := ⟨_, rfl⟩
  have h3 : s3.heap = s2.heap.push (emptySet X.w) := by rw [← hs3]
  have I3 : Inv X pins σ (upd H2 D (SetO X.w D (fun _ => false) 0)) s3 := by
    have z := I2.laid (a := D) (o := SetO X.w D (fun _ => false) 0) (t' := s2.toks) (h' := s2.heap.push (emptySet X.w)) (fun b o e => Heap.get?_push_of_some _ e) (Nat.le_of_eq hD) (by rw [← hD]; exact setO_new (setR_fresh X.w))
    exact hs3 ▸ z
  have low : ∀ b ∈ fp, b < s2.heap.objs.size := fun b hb => let ⟨o, e, _⟩ := T.obj _ _ st2 b hb; Heap.lt_size e
  have f3 : ∀ b ∈ fp, FpOk X pins (upd H2 D (SetO X.w D (fun _ => false) 0)) b ∧ b < s3.heap.objs.size := fun b hb =>
    ⟨⟨(upd_ne (by rw [← hD]; exact Nat.ne_of_lt (low b hb))).trans (f2 b hb).1, (f2 b hb).2⟩, by rw [h3, Heap.size_push]; exact Nat.lt_succ_of_lt (low b hb)⟩
  have st3 : tn 0 s3.heap := T.keep _ _ _ st2 fun b _ o e => h3 ▸ Heap.get?_push_of_some _ e
  have I4 := block_start I3 ok hN f3
  obtain ⟨H3, hH3⟩ : ∃ H3, upd H2 D (SetO X.w D (fun _ => false) 0) = H3 := ⟨_, rfl⟩
  rw [hH3] at I3 f3 I4 w0
  obtain ⟨C, hC⟩ : ∃ C, s3.heap.objs.size = C := ⟨_, rfl⟩
  rw [hC] at I4
  have pg := hg s3 H3 C (cellsFrom (C + 1) scope.names (cloFrom X.env.cells scope.names [])) fp
  have pt := ht s3 H3 C (cellsFrom (C + 1) scope.names (cloFrom X.env.cells scope.names [])) fp
  have pe := he s3 H3 C (cellsFrom (C + 1) scope.names (cloFrom X.env.cells scope.names [])) fp
  subst hs3
  have hC' : (s2.heap.push (emptySet X.w)).objs.size = C := hC
  show codeAny _ _ (.compStart (.SetComp elt [⟨tg, iter, ifs, 0⟩] scope pos) 0 (.ref it) (.ref D) (compEnvC scope (cellsFrom ((s2.heap.push (emptySet X.w)).objs.size + 1) scope.names (cloFrom X.env.cells scope.names [])) (s2.heap.push (emptySet X.w)).objs.size X.env))
    (compPost (model X.prog X.w) X.A X.xe none (EP X pins σ Q) (.ref D) (s2.heap.push (emptySet X.w)).objs.size) { s2 with heap := pushCells ((s2.heap.push (emptySet X.w)).push { cls := .type "dict", data := .dict #[] }) scope.names }
  rw [hC']
  obtain ⟨ce, hce⟩ : ∃ ce, compEnvC scope (cellsFrom (C + 1) scope.names (cloFrom X.env.cells scope.names [])) C X.env = ce := ⟨_, rfl⟩
  rw [hce] at I4 pg pt pe ⊢
  have cL : ce.locals = C := by subst hce; rfl
  obtain ⟨s4, hs4⟩ : ∃ s4 : Shared, { s2 with heap := pushCells ((s2.heap.push (emptySet X.w)).push { cls := .type "dict", data := .dict #[] }) scope.names } = s4 := ⟨_, rfl⟩
  have I4 : Inv (X.blk _ H3 scope ce fp) [] (wipe σ (own.map (·.2))) H3 s4 := hs4 ▸ I4
  rw [hs4]
  have st4 : tn 0 s4.heap := T.keep _ _ _ st3 fun b _ o e => by rw [← hs4]; exact pushCells_keeps _ _ _ _ (Heap.get?_push_of_some _ e)
  obtain ⟨Y, hY⟩ : ∃ Y, X.blk { s2 with heap := s2.heap.push (emptySet X.w) } H3 scope ce fp = Y := ⟨_, rfl⟩
  have rest : ∀ {σ' : L2.St} {H' : Hp} {s' : Shared}, Inv Y [] σ' H' s' → (∀ b ∈ fp, H' b = none) → ∀ b ∈ fp, FpOk Y [] H' b := by
    subst hY
    intro σ' H' s' I' hn b hb
    exact ⟨hn b hb, (I'.ok.exf b hb).1, I'.ok.exfs b hb, .inl hb, fun x c e => (I'.ok.exf b hb).2 x c e, fun p hp => absurd (show p ∈ ([] : List (Addr × Obj)) ++ [] from hp) (by simp)⟩
  have round : codeAny (model X.prog X.w) X.A (.compLoop (.SetComp elt [⟨tg, iter, ifs, 0⟩] scope pos) 0 (.ref it) (.ref D) ce) (compPost (model X.prog X.w) X.A X.xe none (EP X pins σ Q) (.ref D) C) s4 := by
    refine compLoopS_any (fun n s' => ∃ i H', Inv Y [] (wipe σ (own.map (·.2))) H' s' ∧ tn i s'.heap ∧ (∀ b ∈ fp, H' b = none) ∧ W i n H') ?_ m0 ⟨0, H3, hY ▸ I4, st4, fun b hb => (f3 b hb).1.1, w0⟩
    rintro n s5 ⟨i, H5, I5, st5, n5, w5⟩
    rcases turn i n H5 w5 with ⟨stop, qq⟩ | ⟨go, Nx, hNx, step⟩
    · subst hY
      refine thnF (T.done (X.blk _ H3 scope ce fp) rfl rfl rfl hc i [] s5 _ H5 (fun _ _ => False) I5 (rest I5 n5) st5 stop) fun r s6 ⟨hr, I6⟩ => ?_
      subst hr
      have I7 : Inv X pins σ H5 s6 := I3.call' (ch := fp) I6.os I6.base I6.hok I6.bare fun b hb => ⟨(f3 b hb).1.2.2.2.1, (f3 b hb).1.2.1, (f3 b hb).1.2.2.2.2.1, (f3 b hb).1.2.2.2.2.2⟩
      have nC : H5 C = none := cL ▸ (show H5 ce.locals = none from I6.free)
      obtain ⟨m, hn, _⟩ := I6.loc
      have hn : s6.heap.Ns C m := cL ▸ (show s6.heap.Ns ce.locals m from hn)
      refine ⟨m, hn, fun h'' sb => ?_⟩
      obtain ⟨g0, g1, g2, g3, g4, g5⟩ := I3.fpOk (Nat.le_of_eq hC) nC
      exact ⟨.ref D, H5, I7.turned (t' := s6.toks) (fun b o hb e => (sb.2 b hb).trans e) g0 g1 g3 g4 g5, rfl, qq⟩
    · have ti := T.item Y (by subst hY; rfl) (by subst hY; rfl) (by subst hY; rfl) (by subst hY; exact hc) i [] s5 _ H5 (fun _ _ => False) I5 (rest I5 n5) st5 go
      subst hY
      refine thnF ti fun r s6 ⟨u, hr, h6⟩ => ?_
      subst hr
      refine thnF h6 fun _ s7 ⟨x, H7, I7, r7, y7, st7, n7⟩ => ?_
      refine thnF (pg.run _ s7 _ H7 x u _ (I7.pinned (rest I7 n7) (T.obj _ _ st7)) r7 (step x H7 y7)) fun _ s8 ⟨σ8, H8, I8, hw8, q8⟩ => ?_
      refine thnF (pt.run _ s8 σ8 H8 _ I8 q8) fun b s9 ⟨H9, I9, q9⟩ => ?_
      have turned : ∀ {s' : Shared} {H' : Hp}, Inv (X.blk { s2 with heap := s2.heap.push (emptySet X.w) } H3 scope ce fp) ([] ++ pinsAt fp s7.heap) σ8 H' s' → Nx H' → ∃ m, m < n ∧ ∃ i H', Inv (X.blk { s2 with heap := s2.heap.push (emptySet X.w) } H3 scope ce fp) [] (wipe σ (own.map (·.2))) H' s' ∧ tn i s'.heap ∧ (∀ b ∈ fp, H' b = none) ∧ W i m H' := by
        intro s' H' I' nx
        obtain ⟨m', hm, w'⟩ := hNx H' nx
        have pin : ∀ b ∈ fp, ∀ o, s7.heap.get? b = some o → s'.heap.get? b = some o ∧ H' b = none := fun b hb o e =>
          let z := I'.pin (b, o) (List.mem_append_right _ (List.mem_append_right _ (mem_pinsAt hb e))); ⟨z.1, z.2.1⟩
        refine ⟨m', hm, i + 1, H', (I'.unpinned (pins := [])).weak (by rw [← hw8, wipe_length]) (fun j v e => (wipe_some (by rw [hw8]; exact e)).1), T.keep _ _ _ st7 fun b hb o e => (pin b hb o e).1, fun b hb => ?_, w'⟩
        obtain ⟨o, e, _⟩ := T.obj _ _ st7 b hb
        exact (pin b hb o e).2
      cases b with
      | false => simp only [Bool.false_eq_true, if_false] at q9 ⊢; exact turned I9 q9
      | true =>
        simp only [if_true] at q9 ⊢
        refine thnF (pe.run _ s9 σ8 H9 _ I9 q9) fun z s10 ⟨yv, H10, I10, r10, k, S0, n0, ey, hD10, few, nx⟩ => ?_
        subst ey
        obtain ⟨t, rfl⟩ := r10
        exact putInt (X := X.blk _ H3 scope ce fp) I10 hD10 few fun s11 I11 => turned I11 nx
  exact codeAny_compStart_set round (T.self X.A 0 _ _ _ st4 round)

/-- the walk over a list that the block leaves as it is -/
theorem scI_list {w : World} {K : PySem.W.Frag} {a : Addr} {xs : List V} {g : TG} {tt : TT} {te : TE} {vs : List Nat} {σ : L2.St} {H1 : Hp} {D : Addr} {Qd : Hp → Prop}
    (Pv : Nat → Hp → Prop) (h0 : Pv 0 (upd H1 D (SetO w D (fun _ => false) 0))) (hl : ∀ i H, i ≤ xs.length → Pv i H → SqL K H a xs)
    (hs : ∀ i x H, xs[i]? = some x → Pv i H → g x (wipe σ vs) H fun σ2 H2 => wipe σ2 vs = wipe σ vs ∧ tt σ2 H2 fun b H3 => if b = true then te σ2 H3 fun y H4 =>
      ∃ (k : Int) (S : Int → Bool) (n : Nat), y = .int k ∧ H4 D = some (SetO w D S n) ∧ n + 1 < scanBound ∧ Pv (i + 1) (upd H4 D (SetO w D (fun j => S j || decide (j = k)) (if S k = true then n else n + 1))) else Pv (i + 1) H3)
    (hd : ∀ H, Pv xs.length H → Qd H) :
    ∃ W : Nat → Nat → Hp → Prop, (∃ m, W 0 m (upd H1 D (SetO w D (fun _ => false) 0))) ∧ ∀ i m H, W i m H → ((Itl K a).stop i H ∧ Qd H) ∨
      ((Itl K a).go i H ∧ ∃ Nx : Hp → Prop, (∀ H', Nx H' → ∃ m', m' < m ∧ W (i + 1) m' H') ∧ ∀ x H', (Itl K a).yld i H x H' → g x (wipe σ vs) H' fun σ2 H2 => wipe σ2 vs = wipe σ vs ∧
        tt σ2 H2 fun b H3 => if b = true then te σ2 H3 fun y H4 => ∃ (k : Int) (S : Int → Bool) (n : Nat), y = .int k ∧ H4 D = some (SetO w D S n) ∧ n + 1 < scanBound ∧
          Nx (upd H4 D (SetO w D (fun j => S j || decide (j = k)) (if S k = true then n else n + 1))) else Nx H3) := by
  refine ⟨fun i m H => m + i = xs.length ∧ Pv i H, ⟨xs.length, by simp, h0⟩, ?_⟩
  rintro i m H ⟨em, p⟩
  have here := hl i H (by omega) p
  rcases Nat.lt_or_ge i xs.length with lt | ge
  · refine .inr ⟨⟨xs, xs[i], here, by simp [lt]⟩, Pv (i + 1), fun H' p' => ⟨m - 1, by omega, by omega, p'⟩, fun x H' ⟨e, y⟩ => ?_⟩
    subst e
    exact hs i x _ (y xs here) p
  · have e : i = xs.length := by omega
    subst e
    exact .inl ⟨⟨xs, here, Nat.le_refl _⟩, hd H p⟩
end addi
end Rp

namespace Rp
open PySem PySem.Spec PyProof.Rows L2 PpSet
section
variable {P : Program} {w : World} {A : Around} {E : Value → Shared → Prop} {s : Shared}
set_option maxHeartbeats 6400000 in
theorem set_of_list {l : Addr} {items : Array Value} (ns : List Int) {Q : Value → Shared → Prop} (calm : A.handled = none) (hl : s.heap.IsList l items) (hi : IntsAre items.toList ns) (few : ns.length + 1 < scanBound)
    (go : ∀ (h' : Heap) (tk c : Nat), SetR w h' s.heap.objs.size (fun j => decide (j ∈ ns)) c → c ≤ ns.length → (∀ b o, s.heap.get? b = some o → h'.get? b = some o) → Q (.ref s.heap.objs.size) { s with heap := h', toks := tk }) :
    wpAny (model P w) A (call (.type "set") [.ref l]) Q E s := by
  have cnt : items.size = ns.length := by have q := IntsAre.length hi; rwa [Array.length_toList] at q
  obtain ⟨c, tl, hmro⟩ := F.called_set.mro
  have hmade := F.called_set.made
  have hsub := F.called_set.sub
  refine wpAny_call (codeAny_of_tree ?_)
  show wpAny _ _ (callAny (.type "set") _) _ _ _
  refine wpAny_pure ⟨Code.quiet_builtin _ (by decide +kernel), codeAny_builtin F.entry_type_call ?_⟩
  rw [Around.under_plain (weight_type_call_type "set" [.ref l] []) rfl]
  have h1 := F.called_set.notType
  have h2 := F.called_set.canCreate
  have hct := F.typeCall_set_1 (.ref l)
  repeat (any_goals (first | assumption | wp_step))
  refine codeAny_mono (code_set_led1 (.ref l) (E := E) (Q₁ := fun obj z => obj = .ref s.heap.objs.size ∧ z = { s with heap := s.heap.push (emptySet w) }) ⟨rfl, rfl⟩) fun r s₁ hr => ?_
  cases r with
  | error e => exact hr
  | ok fl =>
    cases fl with
    | ret obj =>
      obtain ⟨rfl, rfl⟩ := hr
      have atNew : (s.heap.push (emptySet w)).get? s.heap.objs.size = some (emptySet w) := Heap.get?_push_size _ rfl
      have hT : Shared.TypeIs { s with heap := s.heap.push (emptySet w) } (.ref s.heap.objs.size) "set" := ⟨_, atNew, rfl⟩
      have hli := F.called_set.init.lookup
      have hbi := F.called_set.init.bind (.ref s.heap.objs.size)
      repeat (any_goals (first | assumption | wp_step))
      refine codeAny_mono (codeAny_call_builtin (R := wants (fun r z => r = .none ∧ ∃ h' tk c, z = { s with heap := h', toks := tk } ∧ SetR w h' s.heap.objs.size (fun j => decide (j ∈ ns)) c ∧ c ≤ ns.length ∧
        (∀ b o, s.heap.get? b = some o → h'.get? b = some o)) E) F.called_set.init.plain F.entry_set_init (check_set_init_1 hT ?_)) fun r₂ s₂ hr₂ => ?_
      · obtain ⟨⟨ocls, odict, odata, oslots⟩, hol, hcl, nl, hdl⟩ := hl
        simp only at hcl hdl
        subst hcl hdl
        have hol' : (s.heap.push (emptySet w)).get? l = some { cls := .type "list", dict := odict, data := .seq items nl, slots := oslots } := Heap.get?_push_of_some _ hol
        have hsls := F.sub_list_set
        have hslf := F.sub_list_frozenset
        have hne : (Value.type "list" == Value.type "dict") = false := by decide
        have here : (s.heap.push (emptySet w)).IsList l items := ⟨_, hol', rfl, nl, rfl⟩
        unfold Builtin.«set.__init__» noKeywords Builtin.Frozenset.updateFrom
        generalize hPI : pyIter = PI
        wp_walk
        subst hPI
        refine wpAny_pyIter_list here (wpAny_bind (wpAny_runValue ?_))
        have below : l < s.heap.objs.size := Heap.lt_size hol
        have top : (s.heap.push (emptySet w)).objs.size = s.heap.objs.size + 1 := Heap.size_push ..
        have apart : l ≠ (s.heap.push (emptySet w)).objs.size := by rw [top]; exact Nat.ne_of_lt (Nat.lt_succ_of_lt below)
        have out : s.heap.objs.size ∉ [(s.heap.push (emptySet w)).objs.size, l] := by
          simp only [List.mem_cons, List.not_mem_nil, or_false, not_or, top]
          exact ⟨Nat.ne_of_lt (Nat.lt_succ_self _), Nat.ne_of_gt below⟩
        have each : ∀ (i : Nat) (v : Value), items[i]? = some v → ∃ k t, ns[i]? = some k ∧ v = .int k t := by
          intro i v hv
          have lt : i < ns.length := by rw [← cnt]; exact (Array.getElem?_eq_some_iff.mp hv).1
          obtain ⟨t, e⟩ := PyProof.Rows.IntsAre.int_at hi i v (by rw [Array.getElem?_toList]; exact hv)
          exact ⟨ns[i], t, List.getElem?_eq_getElem lt, by rw [e, List.getD_eq_getElem?_getD, List.getElem?_eq_getElem lt]; rfl⟩
        refine set_update_ints ((Walks.list (by simp [calm]) _ l apart items).toS) s.heap.objs.size out ns cnt few each (items.size - 0) 0 _ (by omega) (Nat.zero_le _)
          ⟨⟨_, Heap.get?_push_size _ rfl, rfl, rfl⟩, here.push _⟩ ⟨0, Nat.le_refl 0, setR_new_at (Heap.get?_push_of_some _ atNew)⟩ fun s' c' hm hc' hS' => ?_
        obtain ⟨h', g2, d', tk', os'⟩ := s'
        have eg : g2 = s.gens := hm.gens
        have ed : d' = s.drawn := hm.drawn
        have eo : os' = s.os := hm.os
        subst eg ed eo
        show wpAny _ _ _ _ _ _
        refine wpAny_pure ?_
        show wpAny _ _ (ret Value.none) _ _ _
        refine wpAny_pure ⟨rfl, h', tk', c', rfl, hS', by omega, fun b o e => ?_⟩
        have lt := Heap.lt_size e
        exact hm.heap b o (by simp only [List.mem_cons, List.not_mem_nil, or_false, not_or, top]; exact ⟨Nat.ne_of_lt lt, Nat.ne_of_lt (Nat.lt_succ_of_lt lt)⟩) (Heap.get?_push_of_some _ (Heap.get?_push_of_some _ e))
      · cases r₂ with
        | error e => exact hr₂
        | ok fl₂ =>
          cases fl₂ with
          | ret r =>
            obtain ⟨rfl, h', tk, c', rfl, hS', hc', hk'⟩ := hr₂
            repeat (any_goals (first | assumption | wp_step))
            exact go _ _ _ hS' hc' hk'
          | _ => exact hr₂.elim
    | _ => exact hr.elim
end
section
variable {X : Cx}
theorem intsOf : ∀ {ns : List Int} {us : List Value}, Vals (ns.map V.int) us → PyProof.Rows.IntsAre us ns
  | [], _, .nil => .nil
  | n :: ns, _, .cons ⟨k, e⟩ t => by subst e; exact .cons n k (intsOf t)
/-- set(xs), xs a list of ints -/
def rSetI (K : PySem.W.Frag) (w : World) : List V → Hp → VK → Prop := fun vs H Q => ∃ (a : Addr) (ns : List Int), vs = [V.ref a] ∧ SqL K H a (ns.map V.int) ∧ ns.length < 1000 ∧
  ∀ (p : Addr) (c : Nat), H p = none → c ≤ ns.length → Q (.ref p) (upd H p (SetO w p (fun j => decide (j ∈ ns)) c))
theorem cr_setI (hc : X.calm = true) : CallR X (.type "set") (rSetI X.K X.w) := by
  intro pins s σ H vs us Q I r h
  obtain ⟨a, ns, rfl, hs, hn, q⟩ := h
  rw [Vals.ref1 r]
  obtain ⟨its, rv, pl, hz⟩ := I.list hs
  refine set_of_list ns (I.ok.hd hc) pl.isList (by simpa using intsOf rv) (by unfold scanBound; omega) fun h' tk c R hc' k => ?_
  have hn : H s.heap.objs.size = none := I.hok.fresh (Nat.le_refl _)
  exact ⟨.ref _, upd H s.heap.objs.size (SetO X.w s.heap.objs.size (fun j => decide (j ∈ ns)) c), I.laid (t' := tk) k (Nat.le_refl _) (setO_new R), rfl, q _ c hn hc'⟩
end
end Rp

namespace Rp
open PySem L2
/-! ### TERMs -/
inductive Tm where
  | v (n : Int) | z | s (t : Tm) | f (l r : Tm)
  deriving DecidableEq
namespace Tm
def size : Tm → Nat
  | v _ => 1 | z => 1 | s t => t.size + 1 | f l r => l.size + r.size + 1
def deep : Tm → Nat
  | v _ => 0 | z => 0 | s t => t.deep + 1 | f l r => max l.deep r.deep + 1
def nums : Tm → List Int
  | v n => [n] | z => [] | s t => t.nums | f l r => l.nums ++ r.nums
/-- all parts, the whole first, the right-hand ones ahead of the left-hand ones -/
def rpost : Tm → List Tm
  | v n => [v n] | z => [z] | s t => s t :: t.rpost | f l r => f l r :: (r.rpost ++ l.rpost)
def kids : Tm → List Tm
  | v _ => [] | z => [] | s t => [t] | f l r => [l, r]
theorem size_pos : ∀ t : Tm, 1 ≤ t.size
  | v _ => Nat.le_refl _ | z => Nat.le_refl _ | s _ => by unfold size; omega | f _ _ => by unfold size; omega
theorem deep_lt : ∀ t : Tm, t.deep < t.size
  | v _ => Nat.zero_lt_one | z => Nat.zero_lt_one | s t => by have := deep_lt t; unfold deep size; omega
  | f l r => by have := deep_lt l; have := deep_lt r; unfold deep size; omega
theorem rpost_len : ∀ t : Tm, t.rpost.length = t.size
  | v _ => rfl | z => rfl | s t => by unfold rpost size; rw [List.length_cons, rpost_len t]
  | f l r => by unfold rpost size; rw [List.length_cons, List.length_append, rpost_len l, rpost_len r]; omega
/-- an int among the parts -/
theorem mem_rpost (n : Int) : ∀ t : Tm, v n ∈ t.rpost ↔ n ∈ t.nums
  | v m => by unfold rpost nums; simp
  | z => by unfold rpost nums; simp
  | s t => by unfold rpost nums; have := mem_rpost n t; simp [this]
  | f l r => by unfold rpost nums; have := mem_rpost n l; have := mem_rpost n r; simp [*]; exact Or.comm
theorem rpost_kids (t : Tm) : t.rpost = t :: (t.kids.reverse.flatMap rpost) := by
  cases t <;> simp [rpost, kids]
theorem kids_size (t : Tm) : (t.kids.map size).sum + 1 = t.size := by
  cases t <;> simp [kids, size] <;> omega
theorem nums_len : ∀ t : Tm, t.nums.length ≤ t.size
  | v _ => Nat.le_refl _ | z => Nat.zero_le _ | s t => by have := nums_len t; unfold nums size; omega
  | f l r => by have := nums_len l; have := nums_len r; unfold nums size; rw [List.length_append]; omega
/-- all signs, as law's leaves has them -/
def signs : Tm → List V
  | v n => [.int n] | z => [.str "0"] | s t => .str "s" :: t.signs | f l r => .str "f" :: (l.signs ++ r.signs)
theorem signs_len : ∀ t : Tm, t.signs.length = t.size
  | v _ => rfl | z => rfl | s t => by unfold signs size; rw [List.length_cons, signs_len t]
  | f l r => by unfold signs size; rw [List.length_cons, List.length_append, signs_len l, signs_len r]
end Tm
/-- the ints of a row of ints and texts -/
def rowInts : List V → List Int
  | [] => []
  | .int n :: r => n :: rowInts r
  | _ :: r => rowInts r
theorem rowInts_append : ∀ a b : List V, rowInts (a ++ b) = rowInts a ++ rowInts b
  | [], b => rfl
  | x :: r, b => by cases x <;> simp [rowInts, rowInts_append r b]
theorem signs_nums : ∀ t : Tm, rowInts t.signs = t.nums
  | .v _ => rfl | .z => rfl | .s t => by simp [Tm.signs, Tm.nums, rowInts, signs_nums t]
  | .f l r => by simp [Tm.signs, Tm.nums, rowInts, rowInts_append, signs_nums l, signs_nums r]
/-- a row of ints and texts -/
def Flat2 : V → Prop
  | .int _ => True
  | .str _ => True
  | _ => False
theorem signs_flat : ∀ t : Tm, ∀ x ∈ t.signs, Flat2 x
  | .v _, x, h => by simp [Tm.signs] at h; subst h; trivial
  | .z, x, h => by simp [Tm.signs] at h; subst h; trivial
  | .s t, x, h => by
    simp only [Tm.signs, List.mem_cons] at h
    rcases h with h | h
    · subst h; trivial
    · exact signs_flat t x h
  | .f l r, x, h => by
    simp only [Tm.signs, List.mem_cons, List.mem_append] at h
    rcases h with h | h | h
    · subst h; trivial
    · exact signs_flat l x h
    · exact signs_flat r x h
/-! ### two rising rows of the same ints are one -/
theorem rising_one : ∀ {a b : List Int}, a.Pairwise (· < ·) → b.Pairwise (· < ·) → (∀ k, k ∈ a ↔ k ∈ b) → a = b
  | [], [], _, _, _ => rfl
  | [], y :: b, _, _, h => by have := (h y).2 (by simp); simp at this
  | x :: a, [], _, _, h => by have := (h x).1 (by simp); simp at this
  | x :: a, y :: b, ha, hb, h => by
    rw [List.pairwise_cons] at ha hb
    have exy : x = y := by
      rcases List.mem_cons.mp ((h x).1 (by simp)) with e | e
      · exact e
      · rcases List.mem_cons.mp ((h y).2 (by simp)) with e' | e'
        · exact e'.symm
        · have := hb.1 x e
          have := ha.1 y e'
          omega
    subst exy
    rw [rising_one ha.2 hb.2 fun k => ?_]
    constructor
    · intro hk
      rcases List.mem_cons.mp ((h k).1 (List.mem_cons_of_mem _ hk)) with e | e
      · have := ha.1 k hk; omega
      · exact e
    · intro hk
      rcases List.mem_cons.mp ((h k).2 (List.mem_cons_of_mem _ hk)) with e | e
      · have := hb.1 k hk; omega
      · exact e
/-! ### heaps -/
/-- all but b stays -/
def But (b : Addr) (H H' : Hp) : Prop := ∀ c o, H c = some o → c ≠ b → H' c = some o
theorem But.refl (b : Addr) (H : Hp) : But b H H := fun _ _ h _ => h
theorem But.trans {b : Addr} {H H1 H2 : Hp} (x : But b H H1) (y : But b H1 H2) : But b H H2 := fun c o h n => y c o (x c o h n) n
theorem but_of {b : Addr} {H H' : Hp} (x : Same H H') : But b H H' := fun c o h _ => x c o h
theorem same_new {H : Hp} {p : Addr} (h : H p = none) (o : HO) : Same H (upd H p o) := fun b u q => by rw [upd_ne (ne_of_none q h)]; exact q
theorem but_upd {H : Hp} {b : Addr} (o : HO) : But b H (upd H b o) := fun c u h n => by rw [upd_ne n]; exact h
/-- the box of draws: j bounds how often it was drawn from -/
structure BoxAt (H : Hp) (b : Addr) (j : Nat) : Prop where
  ex : ∃ x y z : Int, H b = some (.lst [.int x, .int y, .int z]) ∧ 0 ≤ x ∧ 0 ≤ y ∧ y < 10000000000 ∧ 0 ≤ z ∧ z ≤ (j : Int)
theorem BoxAt.same {H H' : Hp} {b : Addr} {j : Nat} (B : BoxAt H b j) (e : Same H H') : BoxAt H' b j := by
  obtain ⟨x, y, z, h, r⟩ := B.ex
  exact ⟨x, y, z, e _ _ h, r⟩
theorem BoxAt.more {H : Hp} {b : Addr} {j k : Nat} (B : BoxAt H b j) (h : j ≤ k) : BoxAt H b k := by
  obtain ⟨x, y, z, e, h1, h2, h3, h4, h5⟩ := B.ex
  exact ⟨x, y, z, e, h1, h2, h3, h4, by omega⟩
theorem BoxAt.some {H : Hp} {b : Addr} {j : Nat} (B : BoxAt H b j) : ∃ xs, H b = some (.lst xs) := by
  obtain ⟨x, y, z, e, _⟩ := B.ex
  exact ⟨_, e⟩
/-- a TERM stands as the value v -/
inductive TmAt (H : Hp) : V → Tm → Prop where
  | v (n : Int) : TmAt H (.int n) (.v n)
  | z {a : Addr} (h : H a = some (.tup [.str "0"])) : TmAt H (.ref a) .z
  | s {a : Addr} {x : V} {t : Tm} (h : H a = some (.tup [.str "s", x])) (q : TmAt H x t) : TmAt H (.ref a) (.s t)
  | f {a : Addr} {x y : V} {l r : Tm} (h : H a = some (.tup [.str "f", x, y])) (q : TmAt H x l) (q' : TmAt H y r) : TmAt H (.ref a) (.f l r)
theorem TmAt.mono {H H' : Hp} (e : ∀ a xs, H a = some (.tup xs) → H' a = some (.tup xs)) {v : V} {t : Tm} (h : TmAt H v t) : TmAt H' v t := by
  induction h with
  | v n => exact .v n
  | z h => exact .z (e _ _ h)
  | s h _ ih => exact .s (e _ _ h) ih
  | f h _ _ ih ih' => exact .f (e _ _ h) ih ih'
theorem TmAt.same {H H' : Hp} (e : Same H H') {v : V} {t : Tm} (h : TmAt H v t) : TmAt H' v t := h.mono fun a xs q => e a _ q
theorem TmAt.but {H H' : Hp} {b : Addr} {ys : List V} (e : But b H H') (hb : H b = some (.lst ys)) {v : V} {t : Tm} (h : TmAt H v t) : TmAt H' v t :=
  h.mono fun a xs q => e a _ q (ne_of q hb (by intro z; cases z))
/-! ### what is alike, kind by kind (to a depth) -/
def Plain : V → Prop
  | .non => True
  | .bl _ => True
  | .int _ => True
  | .str _ => True
  | _ => False
def Alike (H : Hp) : Nat → V → V → Prop
  | 0, x, y => Plain x ∧ x = y
  | n + 1, x, y => (Plain x ∧ x = y) ∨ ∃ a b xs ys, x = .ref a ∧ y = .ref b ∧ ((H a = some (.lst xs) ∧ H b = some (.lst ys)) ∨ (H a = some (.tup xs) ∧ H b = some (.tup ys))) ∧
      xs.length = ys.length ∧ xs.length ≤ 1000000 ∧ ∀ (i : Nat) (u v : V), xs[i]? = some u → ys[i]? = some v → Alike H n u v
theorem Alike.mono {H H' : Hp} (e : Same H H') : ∀ (n : Nat) {x y : V}, Alike H n x y → Alike H' n x y
  | 0, _, _, h => by unfold Alike at h ⊢; exact h
  | n + 1, x, y, h => by
    unfold Alike at h ⊢
    rcases h with h | ⟨a, b, xs, ys, h1, h2, h3, h4, h5, h6⟩
    · exact .inl h
    · exact .inr ⟨a, b, xs, ys, h1, h2, h3.imp (fun q => ⟨e _ _ q.1, e _ _ q.2⟩) (fun q => ⟨e _ _ q.1, e _ _ q.2⟩), h4, h5, fun i u v p q => Alike.mono e n (h6 i u v p q)⟩
theorem alike_ints {H : Hp} {n : Nat} {a b : Addr} {ns : List Int} (ha : H a = some (.lst (ns.map V.int))) (hb : H b = some (.lst (ns.map V.int))) (hl : ns.length ≤ 1000000) : Alike H (n + 1) (.ref a) (.ref b) := by
  unfold Alike
  refine .inr ⟨a, b, _, _, rfl, rfl, .inl ⟨ha, hb⟩, rfl, by rw [List.length_map]; exact hl, fun i u v h1 h2 => ?_⟩
  have e : u = v := Option.some.inj (h1.symm.trans h2)
  subst e
  rw [List.getElem?_map] at h1
  cases q : ns[i]? with
  | none => rw [q] at h1; cases h1
  | some k =>
    rw [q] at h1
    cases h1
    cases n with
    | zero => unfold Alike; exact ⟨trivial, rfl⟩
    | succ n => unfold Alike; exact .inl ⟨trivial, rfl⟩
end Rp

/-! Defs whose body asks for the repr of lists and tuples: their promise is kept where no repr is at work (the around's guards are told to be none), and so where the law itself is called. -/
namespace Rp
open PySem PySem.Spec PyProof.Rows L2
structure GnOk (P : Program) (w : World) (K : PySem.W.Frag) (mg : Str → Option Value) (base : Heap) (k : Nat) (f : Addr) (fd : FuncData) (ps : List Str) (sp : Sp) : Prop where
  len : ∀ vs H Q E, sp vs H Q E → vs.length = ps.length
  run : ∀ (A : Around) (outer : List Env) (s : Shared) (H : Hp) (args : Args) (us : List Value) (vs : List V) (Q : VK) (E : XK), A.guards = some [] → Room k A → Env0 P w K mg base A outer s H → BindsTo s fd args (ps.zip us) → Vals vs us → sp vs H Q E →
    codeAny (model P w) A (.call (.ref f) args) (CR CX0 outer P w H s Q E) s
section
variable {P : Program} {w : World} {K : PySem.W.Frag} {mg : Str → Option Value} {base : Heap}
/-- a def by its body, the guards told -/
theorem gok {x qual : Str} {st : Stmt} {f : Addr} {fd : FuncData} {N ps : List Str} {k : Nat} {sp : Sp} (F : Fun K x qual st f fd) (S : FnScope N ps (defScope st)) (len : ∀ vs H Q E, sp vs H Q E → vs.length = ps.length)
    (walk : ∀ (cdv : Value) (A : Around) (outer : List Env) (s : Shared) (H : Hp) (vs : List V) (Q : VK) (E : XK), A.guards = some [] → Room k (A.deeper (envOfC qual (defScope st) s.heap.objs.size f cdv)) → sp vs H Q E →
      ∃ t, PSs (cxOf CX0 P w K mg base N qual (defScope st) f cdv A outer s H E).nox (defBody st) t ∧ t { nx := fun _ H' => Q .non H', rt := Q } (start N vs) H) : GnOk P w K mg base (k + 1) f fd ps sp := by
  obtain ⟨oc, od, kV, doc, pm, an, cdv, ct, osl, rfl, lk, hcd⟩ := F.ex
  refine ⟨len, fun A outer s H args us vs Q E hg hr e0 hb r hsp => ?_⟩
  have K0 : K.In s.heap := e0.mod.kin.keeps fun b o e => (e0.bs b o e).1
  have L0 : s.heap.NoLimit := e0.mod.nolimit.keeps fun b o e => (e0.bs b o e).1
  have each : ∀ y ∈ ps.zip us, (defScope st).names.lookup y.1 = some .local ∨ ((defScope st).names.lookup y.1 = some .cell ∧ ((cellsFrom (s.heap.objs.size + 1) (defScope st).names []).lookup y.1).isSome = true) := by
    rintro ⟨n, v⟩ hy
    exact (S.par n (List.of_mem_zip hy).1).imp id fun q => ⟨q, PySem.W.cellsFrom_some _ _ _ (.inl q)⟩
  refine codeAny_call_function hr.depth (K0 _ _ lk) rfl S.co S.gen rfl (PySem.W.codeRec_of K0 hcd) (hb _ _ _ _ (wpAny_newFunctionEnv_cells S.kind each fun env he s1 z => ?_))
  subst he
  refine ⟨L0.keeps z.toInCall.keep, codeAny_func ?_⟩
  obtain ⟨t, ht, hq⟩ := walk cdv A outer s H vs Q E hg (hr.deeper _) hsp
  have I : L2.Inv (cxOf CX0 P w K mg base N qual (defScope st) f cdv A outer s H E) [] (start N vs) H s1 := inv_start S hr.hd e0 (len _ _ _ _ hsp) r z
  refine wpAny_mono (ht.nox.run [] s1 (start N vs) H _ I hq) (fun fl s' hs => ?_) fun e s' hs => hs
  rcases fl with _ | _ | _ | u
  · obtain ⟨_, H', J, q⟩ := hs
    exact ⟨V.non, H', J.os, J.bare, J.base, J.hok, rfl, q⟩
  · exact hs.choose_spec.choose_spec.2.elim
  · exact hs.choose_spec.choose_spec.2.elim
  · obtain ⟨v, _, H', J, rv, q⟩ := hs
    exact ⟨v, H', J.os, J.bare, J.base, J.hok, rv, q⟩
end
section
variable {X : Cx} {k : Nat} {f : Addr} {fd : FuncData} {ps : List Str} {sp : Sp} {E : XK} {x : Str} {p pos : Pos} {e : Expr} {es : List Expr} {t : TA}
theorem pe_callG (F : GnOk X.prog X.w X.K X.mg X.base k f fd ps sp) (hgd : X.A.guards = some []) (hr : Room k X.A) (hg : Gl X x) (hm : X.mg x = some (.ref f)) (hk : PySem.W.keepIn X.K (.ref f) = true) (hb : Binds X.K fd ps []) (ha : PA X (e :: es) t)
    (hdb : (x == ("__debug__" : Str)) = false := by decide) (he : starEach (e :: es) X.env = (false, eval e X.env) :: starEach es X.env := by rfl) (hpl : (backTo pos (starEach es X.env)).any (·.1) = false := by rfl) :
    PE X (.Call (.Name x p) (e :: es) [] pos) (tCall sp [] E0 t) := by
  refine ⟨fun pins s σ H Q I h => wpAny_Call_Name_kw (ld_glob I hg hm ?_ hdb)⟩
  refine PySem.W.callWith_K (h₀ := X.base) I.ok.mod.kin hk (thn (ha.run pos pins s σ H _ I h) fun us s1 ⟨vs, H1, I1, r, q⟩ => ⟨I1.kIn, ?_⟩) he hpl
  have q : sp vs H1 Q E0 := by
    have z : sp (vs ++ []) H1 Q E0 := q
    rwa [List.append_nil] at z
  have hl : us.length = ps.length := r.length.symm.trans (F.len _ _ _ _ q)
  have hb' := hb s1 us I1.kIn (by rw [List.append_nil]; exact hl)
  rw [List.append_nil] at hb'
  refine wpAny_call (codeAny_mono (F.run X.A X.stack s1 H1 ⟨us, []⟩ us vs Q E0 hgd hr I1.env0 hb' r q) fun r' s' hq => ?_)
  rcases r' with e' | fl
  · exact hq.elim
  · rcases fl with _ | _ | _ | u
    · exact hq.elim
    · exact hq.elim
    · exact hq.elim
    · exact I1.after hq
/-- repr(v), v data at any depth -/
def rReprD (K : PySem.W.Frag) : List V → Hp → VK → Prop := fun vs H Q => ∃ (v : V) (d : PyData), vs = [v] ∧ Dp K H v d ∧ d.showable = true ∧ d.hasDict = false ∧ d.depth ≤ 64 ∧ d.shown.length ≤ sizeLine ∧ Q (.str d.shown) H
theorem cr_reprD (hgd : X.A.guards = some []) (hu : X.A.units + 66 < cLine) : CallR X (.builtin "repr") (rReprD X.K) := by
  intro pins s σ H vs us Q I r h
  obtain ⟨v, d, rfl, hd, sh, nd, dp, sz, q⟩ := h
  obtain ⟨u, rfl, ru⟩ := vals1 r
  obtain ⟨as, rd⟩ := Dp.reads I d v u hd ru
  cases hd with
  | non => cases ru; exact PySem.P.repr_of_none ⟨.str "None", H, I.tok _, ⟨_, rfl⟩, by simpa [PyData.shown] using q⟩
  | bl b => cases ru; exact PySem.P.repr_of_bool ⟨.str (if b then "True" else "False"), H, I.tok _, ⟨_, rfl⟩, by simpa [PyData.shown] using q⟩
  | int i =>
    obtain ⟨t, rfl⟩ := ru
    exact PySem.P.repr_of_int (by simpa [PyData.showable] using sh) ⟨.str (toString i), H, I.tok _, ⟨_, rfl⟩, by simpa [PyData.shown] using q⟩
  | str x =>
    obtain ⟨t, rfl⟩ := ru
    exact PySem.P.repr_of_str ⟨.str (reprText x), H, I.tok _, ⟨_, rfl⟩, by simpa [PyData.shown] using q⟩ (by simpa [PyData.shown] using sz)
  | lst a b =>
    cases ru
    exact PySem.repr_of_reads' rd sh (fun e => by rw [nd] at e; cases e) hgd (by omega) (fun _ _ e => e) (fun h' u tk k => ⟨.str _, H, I.kept (t' := tk) k, ⟨u, rfl⟩, q⟩) sz
  | tup a b =>
    cases ru
    exact PySem.repr_of_reads' rd sh (fun e => by rw [nd] at e; cases e) hgd (by omega) (fun _ _ e => e) (fun h' u tk k => ⟨.str _, H, I.kept (t' := tk) k, ⟨u, rfl⟩, q⟩) sz
end
/-- the law's own call, its promise with the guards told -/
theorem law_callG {P : Program} {w : World} {K : PySem.W.Frag} {mg mb : Str → Option Value} {k : Nat} {fa a : Addr} {fd : FuncData} {x : Str} {sp : Sp} {s₁ : Shared} {vs : List Value} {ns : List Int}
    (KX : K.In s₁.heap) (hns : s₁.heap.Ns mainGlobals mg) (hb : s₁.heap.Ns builtinsNs mb) (hbb : ∀ x : Str, x ≠ "__name__" → mb x = bootBuiltins x) (hlim : s₁.heap.NoLimit) (hg : s₁.gens = #[])
    (ha : s₁.heap.get? a = some { cls := .type "list", data := .seq vs.toArray }) (hi : IntsAre vs ns) (hl : ns.length ≤ sizeLine) (hr : Room k callerA)
    (F : ∀ base : Heap, K.In base → base.Ns mainGlobals mg → GnOk P w K mg base k fa fd [x] sp) (bind : ∀ (s : Shared) (u : Value), BindsTo s fd ⟨[u], []⟩ [(x, u)])
    (ask : ∀ H : Hp, Only H → SqL K H a (ns.map V.int) → sp [.ref a] H (fun v _ => v = .bl true) E0) :
    codeAny (model P w) callerA (.call (.ref fa) ⟨[.ref a], []⟩) (fun r s' => r = .ok (.ret (.bool true)) ∧ OldK s₁.heap s'.heap ∧ s'.os = s₁.os ∧ AllBare s'.gens) s₁ := by
  have rv := vals_ints hi
  have lenV := hi.length
  have from_ : ∀ H : Hp, Only H → SqL K H a (ns.map V.int) → HOk P w H s₁.heap → (∀ b, H b ≠ none → b = a ∧ K.lookup a = none) →
      codeAny (model P w) callerA (.call (.ref fa) ⟨[.ref a], []⟩) (fun r s' => r = .ok (.ret (.bool true)) ∧ OldK s₁.heap s'.heap ∧ s'.os = s₁.os ∧ AllBare s'.gens) s₁ := by
    intro H only hS hok hA
    have free : ∀ {b : Addr} {o : Obj}, s₁.heap.get? b = some o → (b = a → False) → H b = none := fun {b o} _ n => by
      cases q : H b with
      | none => rfl
      | some u => exact (n (hA b (by rw [q]; simp)).1).elim
    have low : ∀ {b : Addr} {o : Obj}, s₁.heap.get? b = some o → H b = none → (hidT s₁.heap H).get? b = some o := fun e n => hidT_get e n
    have names : ∀ {b : Addr} {m : Str → Option Value}, s₁.heap.Ns b m → (hidT s₁.heap H).Ns b m := fun {b m} ⟨o, es, ep, e, d, r⟩ =>
      ⟨o, es, ep, low e (free e fun z => by subst z; rw [ha] at e; cases e; cases d), d, r⟩
    have hK : K.In (hidT s₁.heap H) := fun b o e => low (KX b o e) (by
      cases q : H b with
      | none => rfl
      | some u =>
        obtain ⟨z, zk⟩ := hA b (by rw [q]; simp)
        subst z
        rw [zk] at e; cases e)
    have M : Mod K mg (hidT s₁.heap H) := ⟨hK, names hns, ⟨mb, names hb, hbb⟩, let ⟨mc, h1, h2⟩ := hlim; ⟨mc, names h1, h2⟩⟩
    have e0 : Env0 P w K mg (hidT s₁.heap H) callerA [] s₁ H := ⟨rfl, M, fun b o e => of_hidT e, Nat.le_of_eq (hidT_size _ _), trivial, fun b z => absurd (show b ∈ ([] : List Addr) from z) (by simp), hok, .of_eq hg⟩
    refine codeAny_mono ((F _ hK (names hns)).run callerA [] s₁ H ⟨[.ref a], []⟩ [.ref a] [.ref a] _ _ rfl hr e0 (bind s₁ (.ref a)) (.cons rfl .nil) (ask H only hS)) fun r s' h => ?_
    rcases r with e | fl
    · exact h.elim
    · rcases fl with _ | _ | _ | u
      · exact h.elim
      · exact h.elim
      · exact h.elim
      · obtain ⟨v, H', os, bare, un, hok', r', q⟩ := h
        obtain rfl : v = .bl true := q
        obtain rfl : u = Value.bool true := r'
        refine ⟨rfl, OldK.of_keep fun b o e => ?_, os, bare⟩
        cases q : H b with
        | none => exact un.keep b o e q (by intro z; exact absurd (show b ∈ ([] : List Addr) from z) (by simp)) (by simp)
        | some u =>
          rcases only b with z | ⟨ob, xs, z⟩
          · rw [q] at z; cases z
          · obtain ⟨e1, _⟩ := hok b _ z
            obtain ⟨e2, _⟩ := hok' b _ (un.frzs b ob _ z)
            rw [e] at e1; cases e1
            exact e2
  cases hk : K.lookup a with
  | some o =>
    have e := KX a o hk
    rw [ha] at e
    cases e
    exact from_ (fun _ => none) (fun _ => .inl rfl) (.inr ⟨_, vs.toArray, _, hk, rfl, rfl, rfl, by rw [List.size_toArray, lenV]; exact hl, by simpa using rv⟩) (fun b u z => nomatch (show (none : Option HO) = some u from z)) fun b z => absurd rfl z
  | none =>
    have at_ : ∀ b, (fun b => if b = a then some (HO.frz { cls := .type "list", data := .seq vs.toArray } (.lst (ns.map V.int))) else none) b ≠ none → b = a := fun b z => by
      by_cases hb : b = a
      · exact hb
      · exact absurd (if_neg hb) z
    refine from_ _ (fun b => ?_) (.inl (.inr ⟨_, if_pos rfl⟩)) (fun b u z => ?_) fun b z => ⟨at_ b z, hk⟩
    · by_cases hb : b = a
      · exact .inr ⟨_, _, if_pos hb⟩
      · exact .inl (if_neg hb)
    · have hb := at_ b (fun e => by have y := z.symm.trans e; cases y)
      subst hb
      have z' := (if_pos rfl).symm.trans z
      cases z'
      exact ⟨ha, by rw [List.length_map]; exact hl, vs, _, rv, ha⟩
theorem walk_ofG {l : PySem.W.OpenLaw} {n k : Nat} {q : Program} {loose : List Str} {XP : (Str → Option Value) → Heap → Prop} {YP : World → Heap → Prop} {d : DefRec} {K : Params → PySem.W.Frag} {sp : PySem.W.Frag → Sp} {x : Str}
    (hn : l.most = some n) (hn2 : n ≤ sizeLine) (hdf : d.params.defaults = []) (hr : Room k callerA) (hY : ∀ (w : World) (h : Heap), YP w h → (K w.params).In h)
    (F : ∀ (w : World) (mg : Str → Option Value) (fa : Addr) (h : Heap), (K w.params).In h → h.Ns mainGlobals mg → mg d.name = some (.ref fa) →
      ∃ fd : FuncData, (∀ (s : Shared) (u : Value), BindsTo s fd ⟨[u], []⟩ [(x, u)]) ∧ ∀ base : Heap, (K w.params).In base → base.Ns mainGlobals mg → GnOk l.prog w (K w.params) mg base k fa fd [x] (sp (K w.params)))
    (ask : ∀ (K : PySem.W.Frag) (H : Hp) (a : Addr) (ns : List Int), ns.length ≤ n → Only H → SqL K H a (ns.map V.int) → sp K [.ref a] H (fun v _ => v = .bl true) E0) :
    PySem.W.WalkO q loose XP YP l.row.toRowW d [] (fun f vs => PySem.call f vs) := by
  refine Att.attach_call hn hdf fun w s₀ s₁ mg mb fa o pm cd doc a vs ns G Y ho hd hcd hmg hobj hints hlen hg => ?_
  obtain ⟨fd, hb, hF⟩ := F w mg fa _ (hY w _ Y) G.T.g hmg
  exact law_callG (hY w _ Y) G.T.g G.T.b G.T.builtins G.T.nolimit hg hobj hints (Nat.le_trans hlen hn2) hr hF hb fun H hO hS => ask _ H a ns hlen hO hS
end Rp

namespace Rp
open PySem L2
def top (i : Nat) : Stmt := PySem.Challenge.pw_ringproofs_k16_definitions_by_names.main.body.getD i (.Pass ⟨0, 0, 0, 0⟩)
abbrev sErr : Stmt := top 2
abbrev sDefs : Stmt := top 8
abbrev sNumber : Stmt := top 12
abbrev sVariable : Stmt := top 13
abbrev sShape : Stmt := top 14
abbrev sTerm : Stmt := top 15
abbrev sParts : Stmt := top 16
abbrev sInside : Stmt := top 17
abbrev sFold : Stmt := top 18
abbrev sVars : Stmt := top 19
abbrev sPut : Stmt := top 20
abbrev sIsName : Stmt := top 25
abbrev sIsAtom : Stmt := top 26
abbrev sHeadVars : Stmt := top 27
abbrev sIsHead : Stmt := top 28
abbrev sIsBody : Stmt := top 29
abbrev sIsRule : Stmt := top 30
abbrev sAtomVars : Stmt := top 31
abbrev sAtomPut : Stmt := top 32
abbrev sTextOf : Stmt := top 35
abbrev sTermText : Stmt := top 36
abbrev sNumberOf : Stmt := top 37
abbrev sFromSigns : Stmt := top 38
abbrev sTermOrNone : Stmt := top 39
abbrev sAtomText : Stmt := top 41
abbrev sAtomOr : Stmt := top 42
abbrev sAtomIn : Stmt := top 43
abbrev sAtomsText : Stmt := top 44
abbrev sAtomsOr : Stmt := top 45
abbrev sRuleText : Stmt := top 46
abbrev sRuleOr : Stmt := top 47
abbrev sRuleIn : Stmt := top 48
abbrev sDefsText : Stmt := top 50
abbrev sDefsIn : Stmt := top 51
abbrev sBox : Stmt := top 53
abbrev sTake : Stmt := top 54
abbrev sFolded : Stmt := top 55
abbrev sSame : Stmt := top 56
abbrev sRefused : Stmt := top 57
abbrev sLaw : Stmt := top 58
end Rp

namespace Rp
open PySem L2
/-! ### promises -/
def spBox (K : PySem.W.Frag) : Sp := fun vs H Q _ => ∃ (a : Addr) (ns : List Int) (k : Int), vs = [.ref a, .int k] ∧ SqL K H a (ns.map V.int) ∧ ns.length ≤ 63 ∧ 0 ≤ k ∧ k ≤ 63 ∧
  ∀ (b : Addr) (H' : Hp), H b = none → BoxAt H' b 0 → Same H H' → Q (.ref b) H'
def spTake : Sp := fun vs H Q _ => ∃ (b : Addr) (c : Int) (j : Nat), vs = [.ref b, .int c] ∧ BoxAt H b j ∧ j ≤ 1000000 ∧ 1 ≤ c ∧ c ≤ 1000000 ∧
  ∀ (r : Int) (H' : Hp), 0 ≤ r → r < c → BoxAt H' b (j + 1) → But b H H' → Q (.int r) H'
def spPick : Sp := fun vs H Q _ => ∃ (b p : Addr) (xs : List V) (j : Nat), vs = [.ref b, .ref p] ∧ BoxAt H b j ∧ j ≤ 1000000 ∧ H p = some (.lst xs) ∧ p ≠ b ∧ 1 ≤ xs.length ∧ xs.length ≤ 1000000 ∧
  ∀ (v : V) (H' : Hp), v ∈ xs → BoxAt H' b (j + 1) → But b H H' → Q v H'
section
variable {P : Program} {w : World} {K : PySem.W.Frag} {mg : Str → Option Value} {base : Heap}
theorem fmod_pos {a c : Int} (h : 0 < c) : 0 ≤ a.fmod c ∧ a.fmod c < c := by
  rw [Int.fmod_eq_emod_of_nonneg a (Int.le_of_lt h)]
  exact ⟨Int.emod_nonneg a (by omega), Int.emod_lt_of_pos a h⟩
theorem fdiv_pos {a c : Int} (h : 0 < c) (ha : 0 ≤ a) : 0 ≤ a.fdiv c := by
  rw [Int.fdiv_eq_ediv_of_nonneg a (Int.le_of_lt h)]
  exact Int.ediv_nonneg ha (Int.le_of_lt h)
theorem scBox : FnScope ["_law_script", "_law_k", "_law_cell"] ["_law_script", "_law_k"] (defScope sBox) := ⟨rfl, rfl, rfl, by decide +kernel, rfl, by decide +kernel, by decide +kernel⟩
theorem ok_box {f : Addr} {fd : FuncData} (F : Fun K "_law_box" "_law_box" sBox f fd) (mLen : mg "len" = none) (mAbs : mg "abs" = none) (mInt : mg "int" = none) :
    FnOk P w K mg base CX0 1 f fd ["_law_script", "_law_k"] (spBox K) := by
  refine F.ok scBox (fun vs H Q E h => ?_) (fun cdv A outer s H vs Q E hr h => ?_)
  · obtain ⟨a, ns, k, rfl, _⟩ := h
    rfl
  obtain ⟨a, ns, k, rfl, hS, hl, h0, h1, q⟩ := h
  refine ⟨_, pss_cons (ps_set (i := 2) scBox.nd rfl (Or.inl rfl) pe_int)
    (pss_cons (ps_if (pt_cmpR op_lt (pv 1) (pe_callB call_len_seq (by rfl) mLen PySem.boot_len (pa_cons (pv 0) pa_nil)) (nomark _))
      (pss_one (ps_set (i := 2) scBox.nd rfl (Or.inl rfl) (pe_ix ix_list (pv 0) (pv 1) (fun _ _ => rfl)))) pss_nil)
    (pss_one (ps_ret (pe_lst (pa_cons
      (pe_op op_mul (pe_callB call_abs (by rfl) mAbs (by decide +kernel) (pa_cons (pv 2) pa_nil))
        (pe_callTy call_int1 (by rfl) mInt (by decide +kernel) (pa_cons (pe_cmpR op_ge (pe_callB call_abs (by rfl) mAbs (by decide +kernel) (pa_cons (pv 2) pa_nil)) (pe_op op_pow pe_int pe_int) (nomark _)) pa_nil)))
      (pa_cons (pe_op op_add (pe_op op_add (pe_op op_modN (pv 2) pe_int) (pe_op op_mul pe_int (pv 1))) pe_int) (pa_cons pe_int pa_nil))))))), ?_⟩
  refine ⟨_, rfl, _, rfl, a, _, rfl, .inl hS, _, _, rfl, rfl, _, rfl, ?_⟩
  have two : ∀ (b : Bool), -(2 ^ 64) < (if b = true then (1 : Int) else 0) ∧ (if b = true then (1 : Int) else 0) < 2 ^ 64 ∧ 0 ≤ (if b = true then (1 : Int) else 0) := by decide
  have pos : ∀ c : Int, 0 ≤ if c < 0 then -c else c := fun c => by split <;> omega
  have m := fun c : Int => fmod_pos (a := c) (c := 2147483629) (by decide)
  refine ite2 (fun c => ?_) (fun c => ?_)
  · have hk : k.toNat < ns.length := by
      have z : k < (((ns.map V.int).length : Nat) : Int) := of_decide_eq_true c
      rw [List.length_map] at z
      omega
    have it : atI (ns.map V.int) k = some (.int ns[k.toNat]) := at_of (j := k.toNat) (by omega) (by rw [List.getElem?_map, List.getElem?_eq_getElem hk]; rfl)
    refine ⟨_, rfl, _, rfl, a, _, _, _, rfl, rfl, hS, it, ?_⟩
    refine ⟨_, rfl, _, rfl, _, rfl, _, rfl, _, _, rfl, rfl, ⟨by decide, by decide, by decide⟩, _, _, rfl, rfl, .inr ⟨_, rfl, ?_⟩⟩
    refine ⟨_, _, rfl, rfl, .inr ⟨(two _).1, (two _).2.1⟩, _, rfl, _, _, rfl, rfl, (fun h => absurd h (by decide)), _, rfl, _, _, rfl, rfl, .inl ⟨by decide, by decide⟩, _, _, rfl, rfl, _, _, rfl, rfl, (by show 3 ≤ sizeLine; decide), fun b hb => ?_⟩
    have mm := m ns[k.toNat]
    exact q b _ hb ⟨_, _, _, upd_same, Int.mul_nonneg (pos _) (two _).2.2, by omega, by omega, by decide, by decide⟩ (same_new hb _)
  · refine ⟨_, rfl, _, rfl, _, rfl, _, rfl, _, _, rfl, rfl, ⟨by decide, by decide, by decide⟩, _, _, rfl, rfl, .inr ⟨_, rfl, ?_⟩⟩
    refine ⟨_, _, rfl, rfl, .inr ⟨(two _).1, (two _).2.1⟩, _, rfl, _, _, rfl, rfl, (fun h => absurd h (by decide)), _, rfl, _, _, rfl, rfl, .inl ⟨by decide, by decide⟩, _, _, rfl, rfl, _, _, rfl, rfl, (by show 3 ≤ sizeLine; decide), fun b hb => ?_⟩
    have mm := m 0
    exact q b _ hb ⟨_, _, _, upd_same, Int.mul_nonneg (pos _) (two _).2.2, by omega, by omega, by decide, by decide⟩ (same_new hb _)
theorem scTake : FnScope ["_law_box_here", "_law_top", "_law_found", "_law_once"] ["_law_box_here", "_law_top"] (defScope sTake) := ⟨rfl, rfl, rfl, by decide +kernel, rfl, by decide +kernel, by decide +kernel⟩
theorem ok_take {f : Addr} {fd : FuncData} (F : Fun K "_law_take" "_law_take" sTake f fd) : FnOk P w K mg base CX0 1 f fd ["_law_box_here", "_law_top"] spTake := by
  refine F.ok scTake (fun vs H Q E h => ?_) (fun cdv A outer s H vs Q E hr h => ?_)
  · obtain ⟨b, c, j, rfl, _⟩ := h
    rfl
  obtain ⟨b, c, j, rfl, B, hj, h1, h2, q⟩ := h
  obtain ⟨x, y, z, hb, x0, y0, y1, z0, z1⟩ := id B
  have s0 : SqL K H b [.int x, .int y, .int z] := .inl (.inl hb)
  have a0 : ∀ u v t : Int, atI [V.int u, .int v, .int t] 0 = some (.int u) := fun u v t => at_of (j := 0) rfl rfl
  have a1 : ∀ u v t : Int, atI [V.int u, .int v, .int t] 1 = some (.int v) := fun u v t => at_of (j := 1) rfl rfl
  have a2 : ∀ u v t : Int, atI [V.int u, .int v, .int t] 2 = some (.int t) := fun u v t => at_of (j := 2) rfl rfl
  refine ⟨_, pss_cons (ps_if (pt_cmpR op_gt (pe_ix ix_list (pv 0) pe_int (fun _ _ => rfl)) pe_int (nomark _))
      (pss_cons (ps_set (i := 2) scTake.nd rfl (Or.inl rfl) (pe_op op_modN (pe_ix ix_list (pv 0) pe_int (fun _ _ => rfl)) (pv 1)))
      (pss_cons (ps_asg (pe_op op_fdivN (pe_ix ix_list (pv 0) pe_int (fun _ _ => rfl)) (pv 1)) (pg_sub (pv 0) pe_int set_list))
      (pss_one (ps_ret (pv 2))))) pss_nil)
    (pss_cons (ps_asg (pe_op op_add (pe_ix ix_list (pv 0) pe_int (fun _ _ => rfl)) pe_int) (pg_sub (pv 0) pe_int set_list))
    (pss_cons (ps_set (i := 3) scTake.nd rfl (Or.inl rfl) (pe_op op_modN (pe_op op_pow (pe_op op_add (pe_ix ix_list (pv 0) pe_int (fun _ _ => rfl)) (pe_op op_mul pe_int (pe_ix ix_list (pv 0) pe_int (fun _ _ => rfl)))) pe_int) pe_int))
    (pss_one (ps_ret (pe_op op_modN (pe_op op_fdivN (pe_op op_modN (pe_op op_add (pe_op op_mul (pv 3) (pe_op op_add (pe_op op_modN (pv 3) pe_int) pe_int)) (pe_op op_mul (pe_ix ix_list (pv 0) pe_int (fun _ _ => rfl)) pe_int)) pe_int) pe_int) (pv 1)))))), ?_⟩
  refine ⟨_, rfl, b, _, _, _, rfl, rfl, s0, a0 _ _ _, _, _, rfl, rfl, _, rfl, ?_⟩
  refine ite2 (fun d => ?_) (fun d => ?_)
  · refine ⟨_, rfl, b, _, _, _, rfl, rfl, s0, a0 _ _ _, _, rfl, _, _, rfl, rfl, (by omega), ?_⟩
    refine ⟨_, rfl, b, _, _, _, rfl, rfl, s0, a0 _ _ _, _, rfl, _, _, rfl, rfl, ⟨by omega, by omega⟩, ?_⟩
    refine ⟨_, rfl, b, _, _, 0, rfl, rfl, hb, rfl, ?_⟩
    have m := fmod_pos (a := x) (c := c) (by omega)
    exact ⟨_, rfl, q _ _ m.1 m.2 ⟨_, _, _, upd_same, fdiv_pos (by omega) x0, y0, y1, z0, by omega⟩ (but_upd _)⟩
  · refine ⟨_, rfl, b, _, _, _, rfl, rfl, s0, a2 _ _ _, _, _, rfl, rfl, ?_⟩
    refine ⟨_, rfl, b, _, _, 2, rfl, rfl, hb, rfl, ?_⟩
    have hb' : (upd H b (.lst [.int x, .int y, .int (z + 1)])) b = some (.lst [.int x, .int y, .int (z + 1)]) := upd_same
    have s1 : SqL K (upd H b (.lst [.int x, .int y, .int (z + 1)])) b [.int x, .int y, .int (z + 1)] := .inl (.inl hb')
    refine ⟨_, rfl, b, _, _, _, rfl, rfl, s1, a1 _ _ _, _, rfl, b, _, _, _, rfl, rfl, s1, a2 _ _ _, _, _, rfl, rfl, .inl ⟨by decide, by decide⟩, _, _, rfl, rfl, _, _, rfl, rfl, ⟨by decide, by decide, by omega⟩, _, _, rfl, rfl, (fun h => absurd h (by decide)), ?_⟩
    generalize (y + 39373 * (z + 1)) ^ Int.toNat 5 = g
    have m := fmod_pos (a := g) (c := 2147483647) (by decide)
    refine ⟨_, rfl, _, rfl, _, _, rfl, rfl, (fun h => absurd h (by decide)), _, _, rfl, rfl, _, _, rfl, rfl, .inl ⟨by omega, by omega⟩, _, rfl, b, _, _, _, rfl, rfl, s1, a2 _ _ _, _, _, rfl, rfl, .inl ⟨by omega, by omega⟩, _, _, rfl, rfl, _, _, rfl, rfl, (fun h => absurd h (by decide)), _, _, rfl, rfl, ⟨by decide, by decide⟩, _, rfl, _, _, rfl, rfl, (by omega), ?_⟩
    generalize Int.fdiv _ _ = e
    have m2 := fmod_pos (a := e) (c := c) (by omega)
    exact q _ _ m2.1 m2.2 ⟨_, _, _, upd_same, x0, y0, y1, by omega, by omega⟩ (but_upd _)
end
end Rp

namespace Rp
open PySem L2
section
variable {P : Program} {w : World} {K : PySem.W.Frag} {mg : Str → Option Value} {base : Heap}
theorem none_left {k : Nat} {f : Addr} {fd : FuncData} {ps : List Str} {sp : Sp} (no : ∀ vs H Q E, ¬ sp vs H Q E) : FnOk P w K mg base CX0 k f fd ps sp :=
  ⟨fun vs H Q E h => absurd h (no vs H Q E), fun A outer s H args us vs Q E _ _ _ _ h => absurd h (no vs H Q E)⟩
theorem v1_ne {x y : Int} (c : ¬ decide (V.int x = V.int y) = true) : x ≠ y := fun e => c (by rw [e]; simp)
theorem v1_eq {x y : Int} (c : decide (V.int x = V.int y) = true) : x = y := V.int.inj (of_decide_eq_true c)
theorem big1000 : (1000 : Nat) ≤ sizeLine := by decide
end
end Rp

namespace Rp
open PySem L2
/-- the value of a TERM is an int or a tuple that stands -/
theorem TmAt.ty {K : PySem.W.Frag} {H : Hp} {v : V} {t : Tm} (h : TmAt H v t) : (∃ n, v = .int n ∧ t = .v n) ∨ (∃ a xs, v = .ref a ∧ H a = some (.tup xs) ∧ TyX K H v (.type "tuple") ∧ (∀ n, t ≠ .v n)) := by
  cases h with
  | v n => exact .inl ⟨n, rfl, rfl⟩
  | z h => exact .inr ⟨_, _, rfl, h, .base (.tup h), fun n e => by cases e⟩
  | s h _ => exact .inr ⟨_, _, rfl, h, .base (.tup h), fun n e => by cases e⟩
  | f h _ _ => exact .inr ⟨_, _, rfl, h, .base (.tup h), fun n e => by cases e⟩
def signHead : Tm → Str
  | .v _ => "" | .z => "0" | .s _ => "s" | .f _ _ => "f"
/-- a TERM that is no variable: its tuple, its parts -/
theorem TmAt.tupled {H : Hp} {v : V} {t : Tm} (h : TmAt H v t) (no : ∀ n, t ≠ .v n) : ∃ a ks, v = .ref a ∧ H a = some (.tup (.str (signHead t) :: ks)) ∧ ks.length = t.kids.length ∧ ∀ (i : Nat) (x : V) (k : Tm), ks[i]? = some x → t.kids[i]? = some k → TmAt H x k := by
  cases h with
  | v n => exact absurd rfl (no n)
  | z h => exact ⟨_, [], rfl, h, rfl, fun i x k h => by simp at h⟩
  | @s a x t h q =>
    refine ⟨_, [x], rfl, h, rfl, fun i y k h1 h2 => ?_⟩
    cases i with
    | zero => simp [Tm.kids] at h1 h2; subst h1 h2; exact q
    | succ i => simp at h1
  | @f a x y l r h q q' =>
    refine ⟨_, [x, y], rfl, h, rfl, fun i u k h1 h2 => ?_⟩
    match i with
    | 0 => simp [Tm.kids] at h1 h2; subst h1 h2; exact q
    | 1 => simp [Tm.kids] at h1 h2; subst h1 h2; exact q'
    | i + 2 => simp at h1
theorem signs_kids : ∀ {t : Tm}, (∀ n, t ≠ .v n) → t.signs = .str (signHead t) :: t.kids.flatMap Tm.signs
  | .v n, h => absurd rfl (h n)
  | .z, _ => rfl
  | .s t, _ => by simp [Tm.signs, Tm.kids, signHead]
  | .f l r, _ => by simp [Tm.signs, Tm.kids, signHead]
theorem kid_deep {t k : Tm} (h : k ∈ t.kids) : k.deep < t.deep := by
  cases t with
  | v n => simp [Tm.kids] at h
  | z => simp [Tm.kids] at h
  | s t => simp [Tm.kids] at h; subst h; exact Nat.lt_succ_self _
  | f l r =>
    simp [Tm.kids] at h
    rcases h with h | h <;> subst h <;> (simp only [Tm.deep]; omega)
theorem kid_size {t k : Tm} (h : k ∈ t.kids) : k.size < t.size := by
  cases t with
  | v n => simp [Tm.kids] at h
  | z => simp [Tm.kids] at h
  | s t => simp [Tm.kids] at h; subst h; exact Nat.lt_succ_self _
  | f l r =>
    simp [Tm.kids] at h
    rcases h with h | h <;> subst h <;> (simp only [Tm.size]; omega)
theorem take_flat {t : Tm} (i : Nat) : ((t.kids.take i).flatMap Tm.signs).length ≤ t.size := by
  cases t with
  | v n => simp [Tm.kids]
  | z => simp [Tm.kids]
  | s t =>
    match i with
    | 0 => simp
    | i + 1 => simp [Tm.kids, Tm.signs_len, Tm.size]
  | f l r =>
    match i with
    | 0 => simp
    | 1 => simp [Tm.kids, Tm.signs_len, Tm.size]; try omega
    | i + 2 => simp [Tm.kids, Tm.signs_len, Tm.size]; try omega
theorem cut_tail (x : V) (ks : List V) : cutV (x :: ks) (some 1) none = ks := by
  have e : HT.sIx (x :: ks).length 0 (some 1) = 1 := by
    have := HT.sIx_nat (x :: ks).length 0 1
    rw [List.length_cons] at this ⊢
    rw [show (some 1 : Option Int) = some ((1 : Nat) : Int) from rfl, this]
    omega
  unfold cutV
  rw [e, HT.sIx_none, List.drop_one, List.tail_cons, List.take_of_length_le (by simp)]
theorem cut_part (x : V) (ks : List V) : ¬ (HT.sIx (x :: ks).length 0 (some 1) = 0 ∧ HT.sIx (x :: ks).length (x :: ks).length none = (x :: ks).length) := by
  have := HT.sIx_nat (x :: ks).length 0 1
  rw [List.length_cons] at this ⊢
  rw [show (some 1 : Option Int) = some ((1 : Nat) : Int) from rfl, this]
  omega
section
variable {P : Program} {w : World} {K : PySem.W.Frag} {mg : Str → Option Value} {base : Heap}
theorem kit_ii : PySem.W.kitOne K (.type "int") (.type "int") = some true := kit_ty (by decide +kernel)
theorem kit_ti : PySem.W.kitOne K (.type "tuple") (.type "int") = some false := kit_ty (by decide +kernel)
theorem kit_si : PySem.W.kitOne K (.type "str") (.type "int") = some false := kit_ty (by decide +kernel)
end
end Rp

namespace Rp
open PySem PySem.Spec PyProof.Rows L2
/-- list.extend by any tuple object -/
theorem extend_by (l : Addr) (xs : Array Value) (n : Nat) (b : Addr) (od : Option Addr) (ys : Array Value) (m : Nat) (sl : Array (Option Value)) (short : ¬(!xs.isEmpty && Builtin.List.listTooLong (xs.size + ys.size)) = true) (h1 : xs.size ≤ sizeLine) (h2 : xs.size + ys.size ≤ sizeLine + 1) :
    Meets (Builtin.«list.extend» ⟨[.ref l, .ref b], []⟩) (fun _ R s => s.heap.get? l = some { cls := .type "list", data := .seq xs n } ∧ s.heap.get? b = some ⟨.type "tuple", od, .seq ys m, sl⟩ ∧
      R (.ok (.ret Value.none)) { s with heap := s.heap.update l (Obj.mapSeq fun x => x ++ ys) }) :=
  .of_wp fun prog w A R s ⟨hl, hb, h⟩ => by
    obtain ⟨hp, g, d, tk, os⟩ := s
    have g1 := sub_list_list
    have g2 := sub_tuple_list
    have g3 := sub_tuple_tuple
    have g4 := sub_list_tuple
    have both : (xs ++ ys).size ≤ sizeLine + 1 := by rw [Array.size_append]; exact h2
    wp_walk using (wpAny_updateSeq hl rfl (hz := h1) (_hz' := both)), wpAny_loadPart' hl, wpAny_loadPart' hb
    exact ⟨_, rfl, h⟩
section
variable {X : Cx}
/-- xs.extend(t), t a tuple -/
def rExtT (K : PySem.W.Frag) : V → List V → Hp → VK → Prop := fun x vs H Q => ∃ (l b : Addr) (xs zs : List V), x = .ref l ∧ vs = [.ref b] ∧ H l = some (.lst xs) ∧ SqT K H b zs ∧ xs.length + zs.length ≤ sizeLine ∧ Q .non (upd H l (.lst (xs ++ zs)))
theorem mt_extendT : MtM X "list.extend" (rExtT X.K) := by
  intro pins s σ H x vs v us Q I rx rv h
  obtain ⟨l, b, xs, zs, rfl, rfl, hH, hB, few, q⟩ := h
  cases rx
  obtain ⟨u, rfl, ru⟩ := rv.one
  cases ru
  obtain ⟨z, its, n, r, hl, e⟩ := I.lstM hH
  obtain ⟨its2, r2, ⟨⟨c2, d2, dat2, sl2⟩, e2, hc2, n2, hd2⟩, hz2⟩ := I.tuple hB
  simp only at hc2 hd2
  subst hc2 hd2
  have l1 := r.length
  have l2 := r2.length
  have room : its.toArray.size + its2.toArray.size ≤ sizeLine := by rw [List.size_toArray, List.size_toArray]; omega
  have short : ¬ (!its.toArray.isEmpty && Builtin.List.listTooLong (its.toArray.size + its2.toArray.size)) = true := by
    rw [notLongL room, Bool.and_false]; exact Bool.false_ne_true
  refine call_meets PySem.F.slot_list_extend ⟨_, e, rfl⟩ PySem.F.entry_list_extend (PySem.F.args_list_extend_2 _ _) (extend_by l its.toArray n b d2 its2.toArray n2 sl2 short (by rw [List.size_toArray]; omega) (by omega)) ⟨e, e2, ?_⟩
  refine ⟨.non, _, I.lset (its' := its ++ its2) (t' := s.toks) hH e (by simp) (r.append r2) ?_, rfl, q⟩
  rw [List.length_append]; omega
end
end Rp

namespace Rp
open PySem L2
/-- values and TERMs side by side -/
def AllAt (H : Hp) : List V → List Tm → Prop
  | [], [] => True
  | x :: xs, t :: ts => TmAt H x t ∧ AllAt H xs ts
  | _, _ => False
theorem AllAt.len {H : Hp} : ∀ {xs : List V} {ts : List Tm}, AllAt H xs ts → xs.length = ts.length
  | [], [], _ => rfl
  | x :: xs, t :: ts, h => congrArg (· + 1) (AllAt.len h.2)
theorem AllAt.append {H : Hp} : ∀ {xs ys : List V} {ts us : List Tm}, AllAt H xs ts → AllAt H ys us → AllAt H (xs ++ ys) (ts ++ us)
  | [], _, [], _, _, h => h
  | x :: xs, _, t :: ts, _, h, h' => ⟨h.1, AllAt.append h.2 h'⟩
theorem AllAt.parted {H : Hp} : ∀ {xs ys : List V} {ts : List Tm}, AllAt H (xs ++ ys) ts → ∃ t1 t2, ts = t1 ++ t2 ∧ AllAt H xs t1 ∧ AllAt H ys t2
  | [], _, ts, h => ⟨[], ts, rfl, trivial, h⟩
  | x :: xs, ys, t :: ts, h => by
    obtain ⟨t1, t2, e, h1, h2⟩ := AllAt.parted (xs := xs) h.2
    exact ⟨t :: t1, t2, by rw [e]; rfl, ⟨h.1, h1⟩, h2⟩
theorem AllAt.mono {H H' : Hp} (e : ∀ a xs, H a = some (.tup xs) → H' a = some (.tup xs)) : ∀ {xs : List V} {ts : List Tm}, AllAt H xs ts → AllAt H' xs ts
  | [], [], _ => trivial
  | x :: xs, t :: ts, h => ⟨h.1.mono e, AllAt.mono e h.2⟩
theorem AllAt.back {H : Hp} : ∀ {xs : List V} {ts : List Tm}, AllAt H xs ts → AllAt H xs.reverse ts.reverse
  | [], [], _ => trivial
  | x :: xs, t :: ts, h => by
    rw [List.reverse_cons, List.reverse_cons]
    exact (AllAt.back h.2).append ⟨h.1, trivial⟩
theorem AllAt.get {H : Hp} : ∀ {xs : List V} {ts : List Tm} {i : Nat} {x : V}, AllAt H xs ts → xs[i]? = some x → ∃ t, ts[i]? = some t ∧ TmAt H x t
  | x :: xs, t :: ts, 0, y, h, e => by simp at e; subst e; exact ⟨t, rfl, h.1⟩
  | x :: xs, t :: ts, i + 1, y, h, e => by simpa using AllAt.get h.2 (by simpa using e)
theorem AllAt.of {H : Hp} : ∀ {xs : List V} {ts : List Tm}, xs.length = ts.length → (∀ (i : Nat) (x : V) (k : Tm), xs[i]? = some x → ts[i]? = some k → TmAt H x k) → AllAt H xs ts
  | [], [], _, _ => trivial
  | x :: xs, t :: ts, l, h => ⟨h 0 x t rfl rfl, AllAt.of (by simpa using l) fun i y k a b => h (i + 1) y k (by simpa using a) (by simpa using b)⟩
def spParts : Sp := fun vs H Q _ => ∃ (v : V) (t : Tm), vs = [v] ∧ TmAt H v t ∧ ∀ (p : Addr) (ks : List V) (H' : Hp), H p = none → H' p = some (.tup ks) → AllAt H' ks t.kids → Same H H' → Q (.ref p) H'
def spInside : Sp := fun vs H Q _ => ∃ (v : V) (t : Tm), vs = [v] ∧ TmAt H v t ∧ t.size ≤ 1000 ∧ ∀ (p : Addr) (xs : List V) (H' : Hp), H p = none → H' p = some (.lst xs) → AllAt H' xs t.rpost.reverse → Same H H' → Q (.ref p) H'
def spSize : Sp := fun vs H Q _ => ∃ (v : V) (t : Tm), vs = [v] ∧ TmAt H v t ∧ t.size ≤ 1000 ∧ ∀ H', Same H H' → Q (.int (t.size : Nat)) H'
def spVars : Sp := fun vs H Q _ => ∃ (v : V) (t : Tm), vs = [v] ∧ TmAt H v t ∧ t.size ≤ 60 ∧ ∀ (p : Addr) (ns : List Int) (H' : Hp), H p = none → H' p = some (.lst (ns.map V.int)) → ns.Pairwise (· < ·) → (∀ k, k ∈ ns ↔ k ∈ t.nums) → Same H H' → Q (.ref p) H'
section
variable {P : Program} {w : World} {K : PySem.W.Frag} {mg : Str → Option Value} {base : Heap}
theorem scParts : FnScope ["term"] ["term"] (defScope sParts) := ⟨rfl, rfl, rfl, by decide +kernel, rfl, by decide +kernel, by decide +kernel⟩
theorem ok_parts {f : Addr} {fd : FuncData} (F : Fun K "_parts" "_parts" sParts f fd) (mIsi : mg "isinstance" = none) (mInt : mg "int" = none) : FnOk P w K mg base CX0 1 f fd ["term"] spParts := by
  refine F.ok scParts (fun vs H Q E h => ?_) (fun cdv A outer s H vs Q E hr h => ?_)
  · obtain ⟨v, t, rfl, _⟩ := h
    rfl
  obtain ⟨v, t, rfl, T, q⟩ := h
  refine ⟨_, pss_one (ps_ret (pe_ifExp (pt_val (pe_callB call_isi (by rfl) mIsi (by decide +kernel) (pa_cons (pv 0) (pa_cons (pe_bltn (v := .ty "int") (by rfl) mInt (by decide +kernel) rfl) pa_nil)))) (pe_tup pa_nil) (pe_slice sl_tup (pv 0) (po_some pe_int) po_none))), ?_⟩
  rcases T.ty (K := K) with ⟨m, rfl, rfl⟩ | ⟨a, xs, rfl, ha, ty, no⟩
  · refine ⟨_, rfl, _, _, _, _, true, rfl, .ty "int", .base (.int m), kit_ii, true, rfl, iteT ?_⟩
    exact ⟨(by show 0 ≤ sizeLine; decide), fun p hp => q p [] _ hp upd_same trivial (same_new hp _)⟩
  · obtain ⟨a', ks, e, ha', hk, hks⟩ := T.tupled no
    cases e
    refine ⟨_, rfl, _, _, _, _, false, rfl, .ty "int", ty, kit_ti, false, rfl, iteF ?_⟩
    refine ⟨_, rfl, 1, rfl, a, _, rfl, .inl (.inl ha'), cut_part _ _, fun p hp => ?_⟩
    rw [cut_tail]
    have s1 := same_new hp (.tup ks)
    exact q p ks _ hp upd_same (AllAt.of hk fun i x k a b => (hks i x k a b).same s1) s1
theorem scInside : FnScope ["term", "found", "todo", "part"] ["term"] (defScope sInside) := ⟨rfl, rfl, rfl, by decide +kernel, rfl, by decide +kernel, by decide +kernel⟩
/-- how many parts are still to come -/
def leftOf (n : Nat) (σ : List (Option V)) (H : Hp) : Nat := match σ with
  | _ :: some (V.ref p) :: _ => (match H p with
    | some (HO.lst xs) => n - xs.length
    | _ => 0)
  | _ => 0
theorem leftOf_is {n : Nat} {v : Option V} {p : Addr} {r : List (Option V)} {H : Hp} {xs : List V} (h : H p = some (.lst xs)) : leftOf n (v :: some (.ref p) :: r) H = n - xs.length := by
  unfold leftOf
  simp [h]
theorem ok_inside {f fP : Addr} {fd fdP : FuncData} (F : Fun K "inside_out" "inside_out" sInside f fd) (FP : Fun K "_parts" "_parts" sParts fP fdP) (bP : Binds K fdP ["term"] []) (mP : mg "_parts" = some (.ref fP)) (mIsi : mg "isinstance" = none) (mInt : mg "int" = none) :
    FnOk P w K mg base CX0 2 f fd ["term"] spInside := by
  have GP : FnOk P w K mg base CX0 1 fP fdP ["term"] spParts := ok_parts FP mIsi mInt
  refine F.ok scInside (fun vs H Q E h => ?_) (fun cdv A outer s H vs Q E hr h => ?_)
  · obtain ⟨v, t, rfl, _⟩ := h
    rfl
  obtain ⟨v, t, rfl, T, hz, q⟩ := h
  refine ⟨_, pss_cons (ps_set (i := 1) scInside.nd rfl (Or.inl rfl) (pe_lst pa_nil))
    (pss_cons (ps_set (i := 2) scInside.nd rfl (Or.inl rfl) (pe_lst (pa_cons (pv 0) pa_nil)))
    (pss_cons (ps_while PassesOwn.never (pt_truth (pv 2) (by intro _; rfl))
      (pss_cons (ps_set (i := 3) scInside.nd rfl (Or.inl rfl) (pe_bm0 PySem.F.plainAttrs_list PySem.F.slot_list_pop PySem.F.type_list_pop mt_pop (pv 2)))
      (pss_cons (ps_expr (pe_bm PySem.F.plainAttrs_list PySem.F.slot_list_append PySem.F.type_list_append mt_append (pv 1) (pa_cons (pv 3) pa_nil)))
      (pss_one (ps_expr (pe_bm PySem.F.plainAttrs_list PySem.F.slot_list_extend PySem.F.type_list_extend mt_extendT (pv 2) (pa_cons (pe_call GP hr rfl mP FP.kp bP .nil pass0 (pa_cons (pv 3) pa_nil)) pa_nil)))))))
    (pss_one (ps_ret (pe_revL (pv 1)))))), ?_⟩
  refine ⟨(by show 0 ≤ sizeLine; decide), fun p hp => ?_⟩
  refine ⟨_, rfl, (by show 1 ≤ sizeLine; decide), fun d hd => ?_⟩
  have s1 := same_new hp (.lst [])
  have s2 := same_new hd (.lst [v])
  have s12 : Same H _ := s1.trans s2
  have pd : p ≠ d := ne_of_none upd_same hd
  dsimp only [gName, tSeq]
  refine while_by (fun σ H2 => ∃ (fxs txs : List V) (fs ts : List Tm) (x : Option V), σ = [some v, some (.ref p), some (.ref d), x] ∧ H2 p = some (.lst fxs) ∧ H2 d = some (.lst txs) ∧ AllAt H2 fxs fs ∧ AllAt H2 txs ts ∧ fs ++ ts.reverse.flatMap Tm.rpost = t.rpost ∧ Same H H2)
    (leftOf t.size) ⟨[], [v], [], [t], none, rfl, s2 _ _ upd_same, upd_same, trivial, ⟨T.same s12, trivial⟩, by simp, s12⟩ ?_ (fun σ H Q Q' m ⟨v, hv, k, hk, q⟩ => ⟨v, hv, k, hk, m _ _ q⟩)
  rintro σ H2 ⟨fxs, txs, fs, ts, x, rfl, h1, h2, A1, A2, eq, sH⟩
  refine ⟨_, rfl, !txs.isEmpty, .inl ⟨txs, .inl (.inl h2), rfl⟩, ?_⟩
  have tot := congrArg List.length eq
  rw [List.length_append, Tm.rpost_len, ← A1.len] at tot
  rcases List.eq_nil_or_concat txs with e | ⟨M, y, e⟩
  · subst e
    refine iteF ?_
    have e2 : ts = [] := by have := A2.len; cases ts with | nil => rfl | cons => simp at this
    subst e2
    have e3 : fs = t.rpost := by simpa using eq
    subst e3
    refine ⟨_, rfl, p, _, rfl, .inl (.inl h1), fun r hr2 => ?_⟩
    have s3 := same_new hr2 (.lst fxs.reverse)
    refine q r _ _ (sH.free hr2) upd_same (A1.back.mono fun a xs z => s3 _ _ z) (sH.trans s3)
  · rw [List.concat_eq_append] at e
    subst e
    have ne : (!(M ++ [y]).isEmpty) = true := by simp
    rw [ne]
    refine iteT ?_
    obtain ⟨L, k', e2, AM, Ay⟩ := A2.parted
    subst e2
    obtain ⟨k, rfl, Tk⟩ : ∃ k, k' = [k] ∧ TmAt H2 y k := by
      match k', Ay with
      | [k], Ay => exact ⟨k, rfl, Ay.1⟩
    have ek : fs ++ (k :: (k.kids.reverse.flatMap Tm.rpost ++ L.reverse.flatMap Tm.rpost)) = t.rpost := by
      rw [← eq]
      simp [Tm.rpost_kids k]
    have room : fxs.length < t.size := by
      have := congrArg List.length ek
      rw [List.length_append, Tm.rpost_len, ← A1.len, List.length_cons] at this
      omega
    have big := big1000
    -- part = todo.pop()
    refine ⟨_, rfl, .inl ⟨rfl, _, .inl (.inl h2)⟩, d, _, y, rfl, rfl, h2, by simp, ?_⟩
    rw [List.dropLast_concat]
    have dp : d ≠ p := fun z => pd z.symm
    have t3 : ∀ a xs, H2 a = some (.tup xs) → upd H2 d (.lst M) a = some (.tup xs) := fun a xs z => by rw [upd_ne (ne_of z h2 (by intro z; cases z))]; exact z
    -- found.append(part)
    refine ⟨_, rfl, .inl ⟨rfl, fxs, .inl (.inl (by rw [upd_ne pd]; exact h1))⟩, _, rfl, p, fxs, y, rfl, rfl, (by rw [upd_ne pd]; exact h1), by omega, ?_⟩
    have h1' : (upd (upd H2 d (.lst M)) p (.lst (fxs ++ [y]))) p = some (.lst (fxs ++ [y])) := upd_same
    have h2' : (upd (upd H2 d (.lst M)) p (.lst (fxs ++ [y]))) d = some (.lst M) := by rw [upd_ne dp]; exact upd_same
    have t4 : ∀ a xs, H2 a = some (.tup xs) → (upd (upd H2 d (.lst M)) p (.lst (fxs ++ [y]))) a = some (.tup xs) := fun a xs z => by
      rw [upd_ne (ne_of z h1 (by intro z; cases z))]; exact t3 a xs z
    have pn : H p = none := hp
    have dn : H d = none := s1.free hd
    have sH4 : Same H (upd (upd H2 d (.lst M)) p (.lst (fxs ++ [y]))) := fun b o z => by
      rw [upd_ne (ne_of_none z pn), upd_ne (ne_of_none z dn)]; exact sH b o z
    -- todo.extend(_parts(part))
    refine ⟨_, rfl, .inl ⟨rfl, M, .inl (.inl h2')⟩, _, rfl, y, k, rfl, Tk.mono t4, fun g ks H5 hg h5 A5 s5 => ?_⟩
    have kl := A5.len
    have lim : M.length + ks.length ≤ sizeLine := by
      have a1 := congrArg List.length ek
      have a2 : k.kids.length ≤ 2 := by cases k <;> simp [Tm.kids]
      have a3 : L.length ≤ (L.reverse.flatMap Tm.rpost).length := by
        have : ∀ l : List Tm, l.length ≤ (l.flatMap Tm.rpost).length := by
          intro l
          induction l with
          | nil => simp
          | cons z l ih => rw [List.flatMap_cons, List.length_append, Tm.rpost_len, List.length_cons]; have := Tm.size_pos z; omega
        have := this L.reverse
        rwa [List.length_reverse] at this
      have a4 := AM.len
      rw [List.length_append, List.length_cons, List.length_append, Tm.rpost_len] at a1
      have a5 : (1000 : Nat) + 1000 ≤ sizeLine := by decide
      omega
    refine ⟨d, g, M, ks, rfl, rfl, s5 _ _ h2', .inl (.inl h5), lim, ?_⟩
    have h1'' := s5 _ _ h1'
    have t6 : ∀ a xs, H5 a = some (.tup xs) → upd H5 d (.lst (M ++ ks)) a = some (.tup xs) := fun a xs z => by rw [upd_ne (ne_of z (s5 _ _ h2') (by intro z; cases z))]; exact z
    have t7 : ∀ a xs, H2 a = some (.tup xs) → upd H5 d (.lst (M ++ ks)) a = some (.tup xs) := fun a xs z => t6 a xs (s5 _ _ (t4 a xs z))
    have h1d : (upd H5 d (.lst (M ++ ks))) p = some (.lst (fxs ++ [y])) := by rw [upd_ne pd]; exact h1''
    refine ⟨⟨fxs ++ [y], M ++ ks, fs ++ [k], L ++ k.kids, some y, rfl, h1d, upd_same, (A1.mono t7).append ⟨Tk.mono t7, trivial⟩, (AM.mono t7).append (A5.mono t6), ?_, ?_⟩, ?_⟩
    · rw [← ek]; simp
    · intro b o z
      rw [upd_ne (ne_of_none z dn)]
      exact s5 _ _ (sH4 b o z)
    · show leftOf t.size (some v :: some (.ref p) :: _) _ < leftOf t.size (some v :: some (.ref p) :: _) H2
      rw [leftOf_is h1d, leftOf_is h1, List.length_append, List.length_singleton]
      omega
end
end Rp

namespace Rp
open PySem L2 RZ
/-- [.. for a, b in zip(xs, ys)], both lists or both tuples, as long -/
theorem lc_pairs {J : It} {xs ys : List V} {g : TG} {tt : TT} {te : TE} {vs : List Nat} {σ : L2.St} {H1 : Hp} {D : Addr} {Qd : Hp → Prop} (same : xs.length = ys.length) (Pv : Nat → Hp → Prop)
    (stops : ∀ H, Pv xs.length H → J.stop xs.length H) (goes : ∀ i H, i < xs.length → Pv i H → J.go i H)
    (gives : ∀ i H v H', Pv i H → J.yld i H v H' → ∃ T x y, v = .ref T ∧ xs[i]? = some x ∧ ys[i]? = some y ∧ H T = none ∧ H' = upd H T (.tup [x, y]))
    (h0 : Pv 0 (upd H1 D (.lst [])))
    (hs : ∀ (i : Nat) (x y : V) (T : Addr) (H : Hp), xs[i]? = some x → ys[i]? = some y → Pv i H → H T = none → g (.ref T) (wipe σ vs) (upd H T (.tup [x, y])) fun σ2 H2 => wipe σ2 vs = wipe σ vs ∧
      tt σ2 H2 fun b H3 => if b = true then te σ2 H3 fun y H4 => ∃ acc, H4 D = some (.lst acc) ∧ acc.length < sizeLine ∧ Pv (i + 1) (upd H4 D (.lst (acc ++ [y]))) else Pv (i + 1) H3)
    (hd : ∀ H, Pv xs.length H → Qd H) :
    ∃ W : Nat → Nat → Hp → Prop, (∃ m, W 0 m (upd H1 D (.lst []))) ∧ ∀ i m H, W i m H → (J.stop i H ∧ Qd H) ∨
      (J.go i H ∧ ∃ Nx : Hp → Prop, (∀ H', Nx H' → ∃ m', m' < m ∧ W (i + 1) m' H') ∧ ∀ x H', J.yld i H x H' → g x (wipe σ vs) H' fun σ2 H2 => wipe σ2 vs = wipe σ vs ∧
        tt σ2 H2 fun b H3 => if b = true then te σ2 H3 fun y H4 => ∃ acc, H4 D = some (.lst acc) ∧ acc.length < sizeLine ∧ Nx (upd H4 D (.lst (acc ++ [y]))) else Nx H3) := by
  refine ⟨fun i m H => m + i = xs.length ∧ Pv i H, ⟨xs.length, by simp, h0⟩, ?_⟩
  rintro i m H ⟨em, p⟩
  rcases Nat.lt_or_ge i xs.length with lt | ge
  · refine .inr ⟨goes i H lt p, Pv (i + 1), fun H' p' => ⟨m - 1, by omega, by omega, p'⟩, fun v H' y => ?_⟩
    obtain ⟨T, x, y', rfl, hx, hy, hT, rfl⟩ := gives i H v H' p y
    exact hs i x y' T H hx hy p hT
  · have e : i = xs.length := by omega
    subst e
    exact .inl ⟨stops H p, hd H p⟩
def spSame (n : Nat) : Sp := fun vs H Q _ => ∃ (x y : V) (m : Nat), vs = [x, y] ∧ n = m + 1 ∧ Alike H m x y ∧ ∀ H', Same H H' → Q (.bl true) H'
section
variable {P : Program} {w : World} {K : PySem.W.Frag} {mg : Str → Option Value} {base : Heap}
structure SameG (mg : Str → Option Value) : Prop where
  isi : mg "isinstance" = none
  list : mg "list" = none
  tuple : mg "tuple" = none
  len : mg "len" = none
  all : mg "all" = none
  zip : mg "zip" = none
  str : mg "str" = none
  int : mg "int" = none
  bool : mg "bool" = none
theorem scSame : FnScope ["_law_found", "_law_due", "_law_one", "_law_two"] ["_law_found", "_law_due"] (defScope sSame) := ⟨rfl, rfl, rfl, by decide +kernel, rfl, by decide +kernel, by decide +kernel⟩
theorem kitB_of {K : PySem.W.Frag} {a b : String} {r : Bool} (h : kitB a b = some r) : PySem.W.kitOne K (.type a) (.type b) = some r := h
theorem kit_lt {K : PySem.W.Frag} {a : String} {p r : Bool} (h1 : kitB a "list" = some p) (h2 : kitB a "tuple" = some r) : PySem.W.kitAny K (.type a) [.type "list", .type "tuple"] = some (p || r) := by
  refine kitAny_cons (kitB_of h1) (fun e => ?_) (fun e => by rw [e]; rfl)
  refine kitAny_cons (kitB_of h2) (fun e2 => by rw [e, e2]; exact kitAny_nil) (fun e2 => by rw [e, e2]; rfl)
theorem ok_same {n : Nat} {f : Addr} {fd : FuncData} (F : Fun K "_law_same" "_law_same" sSame f fd) (b2 : Binds K fd ["_law_found", "_law_due"] []) (mF : mg "_law_same" = some (.ref f)) (G : FnOk P w K mg base CX0 n f fd ["_law_found", "_law_due"] (spSame n)) (M : SameG mg) :
    FnOk P w K mg base CX0 (n + 1) f fd ["_law_found", "_law_due"] (spSame (n + 1)) := by
  refine F.ok scSame (fun vs H Q E h => ?_) (fun cdv A outer s H vs Q E hr h => ?_)
  · obtain ⟨x, y, m, rfl, _⟩ := h
    rfl
  obtain ⟨x, y, m, rfl, em, hA, q⟩ := h
  have em : n = m := by omega
  subst em
  refine ⟨_, pss_cons (ps_if (pt_val (pe_callB (id := "isinstance") call_isiT (by rfl) M.isi (by decide +kernel) (pa_cons (pv 1) (pa_cons (pe_tup (pa_cons (pe_bltn (v := .ty "list") (by rfl) M.list (by decide +kernel) rfl) (pa_cons (pe_bltn (v := .ty "tuple") (by rfl) M.tuple (by decide +kernel) rfl) pa_nil))) pa_nil))))
      (pss_cons (ps_if (PW.pt (pw_or (pt_cmpR op_ne
            (pe_callB (id := "isinstance") call_isi (by rfl) M.isi (by decide +kernel) (pa_cons (pv 0) (pa_cons (pe_bltn (v := .ty "list") (by rfl) M.list (by decide +kernel) rfl) pa_nil)))
            (pe_callB (id := "isinstance") call_isi (by rfl) M.isi (by decide +kernel) (pa_cons (pv 1) (pa_cons (pe_bltn (v := .ty "list") (by rfl) M.list (by decide +kernel) rfl) pa_nil))) (nomark _))
          (pw_or1 (pt_cmpR op_ne
            (pe_callB (id := "isinstance") call_isi (by rfl) M.isi (by decide +kernel) (pa_cons (pv 0) (pa_cons (pe_bltn (v := .ty "tuple") (by rfl) M.tuple (by decide +kernel) rfl) pa_nil)))
            (pe_callB (id := "isinstance") call_isi (by rfl) M.isi (by decide +kernel) (pa_cons (pv 1) (pa_cons (pe_bltn (v := .ty "tuple") (by rfl) M.tuple (by decide +kernel) rfl) pa_nil))) (nomark _))))) (pss_one (ps_ret pe_bl)) pss_nil)
      (pss_cons (ps_if (pt_cmpR op_ne (pe_callB call_len_seq (by rfl) M.len PySem.boot_len (pa_cons (pv 0) pa_nil)) (pe_callB call_len_seq (by rfl) M.len PySem.boot_len (pa_cons (pv 1) pa_nil)) (nomark _)) (pss_one (ps_ret pe_bl)) pss_nil)
      (pss_one (ps_ret (pe_callB (cr_all rfl) (by rfl) M.all (by decide +kernel) (pa_cons (pe_lc (own := [("_law_one", 2), ("_law_two", 3)]) (g := gTup K 2 (gCons (gName 2) (gCons (gName 3) gNil))) (tt := tYes) (te := tCall (spSame n) [] E0 (tCons (tVar 2) (tCons (tVar 3) tNil))) rfl scSame.nd
        (pi_zipA (by rfl) M.zip (pa_cons (pv 0) (pa_cons (pv 1) pa_nil))) (blkOk_by (N := ["_law_found", "_law_due", "_law_one", "_law_two"]) (sc := defScope sSame) (by decide +kernel))
        (fun _ _ _ _ _ => pg_tup (by rfl) (pgs_cons (pg_name (i := 2) scSame.nd rfl (Or.inl rfl)) (pgs_cons (pg_name (i := 3) scSame.nd rfl (Or.inl rfl)) pgs_nil)))
        (fun _ _ _ _ _ => pts_nil) (fun _ _ _ _ _ => pe_call G hr (by rfl) mF F.kp b2 .nil pass0 (pa_cons (pv 2) (pa_cons (pv 3) pa_nil)))) pa_nil)))))) pss_nil)
    (pss_cons (ps_if (PW.pt (pw_or (pt_cmpR op_isN (pv 1) pe_non (nomark _)) (pw_or1 (pt_val (pe_callB (id := "isinstance") call_isi (by rfl) M.isi (by decide +kernel) (pa_cons (pv 1) (pa_cons (pe_bltn (v := .ty "str") (by rfl) M.str (by decide +kernel) rfl) pa_nil)))))))
      (pss_one (ps_ret (pe_and (pe_cmpR op_eq (pv 0) (pv 1) (nomark _)) (pe_one (pe_cmpR op_eq
            (pe_callB (id := "isinstance") call_isi (by rfl) M.isi (by decide +kernel) (pa_cons (pv 0) (pa_cons (pe_bltn (v := .ty "str") (by rfl) M.str (by decide +kernel) rfl) pa_nil)))
            (pe_callB (id := "isinstance") call_isi (by rfl) M.isi (by decide +kernel) (pa_cons (pv 1) (pa_cons (pe_bltn (v := .ty "str") (by rfl) M.str (by decide +kernel) rfl) pa_nil))) (nomark _)))))) pss_nil)
    (pss_one (ps_ret (pe_and (pe_callB (id := "isinstance") call_isi (by rfl) M.isi (by decide +kernel) (pa_cons (pv 0) (pa_cons (pe_bltn (v := .ty "int") (by rfl) M.int (by decide +kernel) rfl) pa_nil)))
      (pe_and (pe_cmpR op_eq
            (pe_callB (id := "isinstance") call_isi (by rfl) M.isi (by decide +kernel) (pa_cons (pv 0) (pa_cons (pe_bltn (v := .ty "bool") (by rfl) M.bool (by decide +kernel) rfl) pa_nil)))
            (pe_callB (id := "isinstance") call_isi (by rfl) M.isi (by decide +kernel) (pa_cons (pv 1) (pa_cons (pe_bltn (v := .ty "bool") (by rfl) M.bool (by decide +kernel) rfl) pa_nil))) (nomark _))
        (pe_one (pe_cmpR op_eq (pv 0) (pv 1) (nomark _)))))))), ?_⟩
  refine ⟨_, rfl, (by show 2 ≤ sizeLine; decide), fun p hp => ?_⟩
  have s1 := same_new hp (.tup [V.ty "list", V.ty "tuple"])
  have plain : Plain x ∧ x = y ∨ ∃ m a b xs ys, n = m + 1 ∧ x = .ref a ∧ y = .ref b ∧ ((H a = some (.lst xs) ∧ H b = some (.lst ys)) ∨ (H a = some (.tup xs) ∧ H b = some (.tup ys))) ∧
      xs.length = ys.length ∧ xs.length ≤ 1000000 ∧ ∀ (i : Nat) (u v : V), xs[i]? = some u → ys[i]? = some v → Alike H m u v := by
    cases n with
    | zero => unfold Alike at hA; exact .inl hA
    | succ m =>
      unfold Alike at hA
      rcases hA with h | ⟨a, b, xs, ys, h⟩
      · exact .inl h
      · exact .inr ⟨m, a, b, xs, ys, rfl, h⟩
  rcases plain with ⟨px, rfl⟩ | ⟨m, a, b, xs, ys, rfl, rfl, rfl, kinds, hl, hz, each⟩
  · cases x with
    | int i =>
      refine ⟨_, p, _, _, [.type "list", .type "tuple"], false, rfl, upd_same, .cons (.ty _) (.cons (.ty _) .nil), .base (.int i), kit_lt (p := false) (r := false) (by decide +kernel) (by decide +kernel), false, rfl, iteF ?_⟩
      refine ⟨_, rfl, rfl, false, congrArg V.bl (decide_eq_false (fun z => nomatch z)), iteF ?_⟩
      refine ⟨_, rfl, _, _, _, _, false, rfl, .ty "str", .base (.int i), kitB_of (by decide +kernel), false, rfl, iteF ?_⟩
      refine ⟨_, rfl, _, _, _, _, true, rfl, .ty "int", .base (.int i), kitB_of (by decide +kernel), true, rfl, iteT ?_⟩
      refine ⟨_, rfl, _, _, _, _, false, rfl, .ty "bool", .base (.int i), kitB_of (by decide +kernel), _, rfl, _, _, _, _, false, rfl, .ty "bool", .base (.int i), kitB_of (by decide +kernel), rfl, true, congrArg V.bl (decide_eq_true rfl), iteT ?_⟩
      refine ⟨_, rfl, _, rfl, rfl, ?_⟩
      have e : decide (V.int i = V.int i) = true := decide_eq_true rfl
      rw [e]
      exact q _ s1
    | bl i =>
      refine ⟨_, p, _, _, [.type "list", .type "tuple"], false, rfl, upd_same, .cons (.ty _) (.cons (.ty _) .nil), .base (.bl i), kit_lt (p := false) (r := false) (by decide +kernel) (by decide +kernel), false, rfl, iteF ?_⟩
      refine ⟨_, rfl, rfl, false, congrArg V.bl (decide_eq_false (fun z => nomatch z)), iteF ?_⟩
      refine ⟨_, rfl, _, _, _, _, false, rfl, .ty "str", .base (.bl i), kitB_of (by decide +kernel), false, rfl, iteF ?_⟩
      refine ⟨_, rfl, _, _, _, _, true, rfl, .ty "int", .base (.bl i), kitB_of (by decide +kernel), true, rfl, iteT ?_⟩
      refine ⟨_, rfl, _, _, _, _, true, rfl, .ty "bool", .base (.bl i), kitB_of (by decide +kernel), _, rfl, _, _, _, _, true, rfl, .ty "bool", .base (.bl i), kitB_of (by decide +kernel), rfl, true, congrArg V.bl (decide_eq_true rfl), iteT ?_⟩
      refine ⟨_, rfl, _, rfl, rfl, ?_⟩
      have e : decide (V.bl i = V.bl i) = true := decide_eq_true rfl
      rw [e]
      exact q _ s1
    | str i =>
      refine ⟨_, p, _, _, [.type "list", .type "tuple"], false, rfl, upd_same, .cons (.ty _) (.cons (.ty _) .nil), .base (.str i), kit_lt (p := false) (r := false) (by decide +kernel) (by decide +kernel), false, rfl, iteF ?_⟩
      refine ⟨_, rfl, rfl, false, congrArg V.bl (decide_eq_false (fun z => nomatch z)), iteF ?_⟩
      refine ⟨_, rfl, _, _, _, _, true, rfl, .ty "str", .base (.str i), kitB_of (by decide +kernel), true, rfl, iteT ?_⟩
      refine ⟨_, rfl, _, rfl, rfl, true, congrArg V.bl (decide_eq_true rfl), iteT ?_⟩
      refine ⟨_, rfl, _, _, _, _, true, rfl, .ty "str", .base (.str i), kitB_of (by decide +kernel), _, rfl, _, _, _, _, true, rfl, .ty "str", .base (.str i), kitB_of (by decide +kernel), rfl, ?_⟩
      have e : decide (V.bl true = V.bl true) = true := decide_eq_true rfl
      rw [e]
      exact q _ s1
    | non =>
      refine ⟨_, p, _, _, [.type "list", .type "tuple"], false, rfl, upd_same, .cons (.ty _) (.cons (.ty _) .nil), .base .non, kit_lt (p := false) (r := false) (by decide +kernel) (by decide +kernel), false, rfl, iteF ?_⟩
      refine ⟨_, rfl, rfl, true, congrArg V.bl (decide_eq_true rfl), iteT ?_⟩
      refine iteT ?_
      refine ⟨_, rfl, _, rfl, rfl, true, congrArg V.bl (decide_eq_true rfl), iteT ?_⟩
      refine ⟨_, rfl, _, _, _, _, false, rfl, .ty "str", .base .non, kitB_of (by decide +kernel), _, rfl, _, _, _, _, false, rfl, .ty "str", .base .non, kitB_of (by decide +kernel), rfl, ?_⟩
      have e : decide (V.bl false = V.bl false) = true := decide_eq_true rfl
      rw [e]
      exact q _ s1
    | _ => exact px.elim
  · rcases kinds with ⟨ha, hb⟩ | ⟨ha, hb⟩
    · have ha1 := s1 _ _ ha
      have hb1 := s1 _ _ hb
      refine ⟨_, p, _, _, [.type "list", .type "tuple"], true, rfl, upd_same, .cons (.ty _) (.cons (.ty _) .nil), .base (.lst hb1), kit_lt (p := true) (r := false) (by decide +kernel) (by decide +kernel), true, rfl, iteT ?_⟩
      refine ⟨_, rfl, _, _, _, _, true, rfl, .ty "list", .base (.lst ha1), kitB_of (by decide +kernel), _, rfl, _, _, _, _, true, rfl, .ty "list", .base (.lst hb1), kitB_of (by decide +kernel), rfl, false, congrArg (fun z => V.bl (!z)) (decide_eq_true rfl), iteF ?_⟩
      refine ⟨_, rfl, _, _, _, _, false, rfl, .ty "tuple", .base (.lst ha1), kitB_of (by decide +kernel), _, rfl, _, _, _, _, false, rfl, .ty "tuple", .base (.lst hb1), kitB_of (by decide +kernel), rfl, false, congrArg (fun z => V.bl (!z)) (decide_eq_true rfl), iteF ?_⟩
      refine ⟨_, rfl, a, _, rfl, .inl (.inl (.inl ha1)), _, rfl, b, _, rfl, .inl (.inl (.inl hb1)), rfl, false, congrArg (fun z => V.bl (!z)) (decide_eq_true (by rw [hl])), iteF ?_⟩
      refine ⟨_, rfl, _, rfl, a, b, xs, ys, rfl, .inl ⟨.inl (.inl ha1), .inl (.inl hb1), fun D hD => ?_⟩⟩
      refine lc_pairs (J := Itz K a b) (xs := xs) (ys := ys) hl (fun i H2 => H2 D = some (.lst (List.replicate i (V.bl true))) ∧ Same _ H2)
        (fun H2 h => ⟨xs, ys, .inl (.inl (h.2 _ _ ha1)), .inl (.inl (h.2 _ _ hb1)), .inl (Nat.le_refl _)⟩)
        (fun i H2 lt h => ⟨xs, ys, xs[i], ys[i]'(by omega), .inl (.inl (h.2 _ _ ha1)), .inl (.inl (h.2 _ _ hb1)), List.getElem?_eq_getElem lt, List.getElem?_eq_getElem (by omega)⟩)
        (fun i H2 v H3 h ⟨T, u, v', e1, hT, e2, f1, f2⟩ => ⟨T, u, v', e1, f1 xs (.inl (.inl (h.2 _ _ ha1))), f2 ys (.inl (.inl (h.2 _ _ hb1))), hT, e2⟩)
        ⟨upd_same, same_new hD _⟩ (fun i u v T H2 hu hv h hT => ?_) (fun H2 h => ⟨D, List.replicate xs.length true, rfl, .inl (.inl (by rw [List.map_replicate]; exact h.1)), ?_⟩)
      · have sT := same_new hT (.tup [u, v])
        refine ⟨T, _, rfl, .inl (.inl upd_same), rfl, _, _, rfl, _, _, rfl, rfl, rfl, ?_⟩
        have lt : i < xs.length := (List.getElem?_eq_some_iff.mp hu).1
        refine ⟨_, rfl, _, rfl, u, v, m, rfl, rfl, Alike.mono (s1.trans (h.2.trans sT)) m (each i u v hu hv), fun H4 s4 => ⟨_, s4 _ _ (sT _ _ h.1), ?_, ?_, ?_⟩⟩
        · rw [List.length_replicate]; exact Nat.lt_of_lt_of_le (by omega : i < 1000000) (by decide)
        · rw [upd_same, List.replicate_succ']
        · intro c o z
          have nD : c ≠ D := fun e => by subst e; rw [hD] at z; cases z
          rw [upd_ne nD]
          exact s4 _ _ (sT _ _ (h.2 _ _ z))
      · have e : (List.replicate xs.length true).all id = true := by rw [List.all_eq_true]; intro x hx; rw [List.eq_of_mem_replicate hx]; rfl
        rw [e]
        exact q _ (s1.trans h.2)
    · have ha1 := s1 _ _ ha
      have hb1 := s1 _ _ hb
      refine ⟨_, p, _, _, [.type "list", .type "tuple"], true, rfl, upd_same, .cons (.ty _) (.cons (.ty _) .nil), .base (.tup hb1), kit_lt (p := false) (r := true) (by decide +kernel) (by decide +kernel), true, rfl, iteT ?_⟩
      refine ⟨_, rfl, _, _, _, _, false, rfl, .ty "list", .base (.tup ha1), kitB_of (by decide +kernel), _, rfl, _, _, _, _, false, rfl, .ty "list", .base (.tup hb1), kitB_of (by decide +kernel), rfl, false, congrArg (fun z => V.bl (!z)) (decide_eq_true rfl), iteF ?_⟩
      refine ⟨_, rfl, _, _, _, _, true, rfl, .ty "tuple", .base (.tup ha1), kitB_of (by decide +kernel), _, rfl, _, _, _, _, true, rfl, .ty "tuple", .base (.tup hb1), kitB_of (by decide +kernel), rfl, false, congrArg (fun z => V.bl (!z)) (decide_eq_true rfl), iteF ?_⟩
      refine ⟨_, rfl, a, _, rfl, .inr (.inl (.inl ha1)), _, rfl, b, _, rfl, .inr (.inl (.inl hb1)), rfl, false, congrArg (fun z => V.bl (!z)) (decide_eq_true (by rw [hl])), iteF ?_⟩
      refine ⟨_, rfl, _, rfl, a, b, xs, ys, rfl, .inr ⟨.inl (.inl ha1), .inl (.inl hb1), fun D hD => ?_⟩⟩
      refine lc_pairs (J := ItzT K a b) (xs := xs) (ys := ys) hl (fun i H2 => H2 D = some (.lst (List.replicate i (V.bl true))) ∧ Same _ H2)
        (fun H2 h => ⟨xs, ys, .inl (.inl (h.2 _ _ ha1)), .inl (.inl (h.2 _ _ hb1)), .inl (Nat.le_refl _)⟩)
        (fun i H2 lt h => ⟨xs, ys, xs[i], ys[i]'(by omega), .inl (.inl (h.2 _ _ ha1)), .inl (.inl (h.2 _ _ hb1)), List.getElem?_eq_getElem lt, List.getElem?_eq_getElem (by omega)⟩)
        (fun i H2 v H3 h ⟨T, u, v', e1, hT, e2, f1, f2⟩ => ⟨T, u, v', e1, f1 xs (.inl (.inl (h.2 _ _ ha1))), f2 ys (.inl (.inl (h.2 _ _ hb1))), hT, e2⟩)
        ⟨upd_same, same_new hD _⟩ (fun i u v T H2 hu hv h hT => ?_) (fun H2 h => ⟨D, List.replicate xs.length true, rfl, .inl (.inl (by rw [List.map_replicate]; exact h.1)), ?_⟩)
      · have sT := same_new hT (.tup [u, v])
        refine ⟨T, _, rfl, .inl (.inl upd_same), rfl, _, _, rfl, _, _, rfl, rfl, rfl, ?_⟩
        have lt : i < xs.length := (List.getElem?_eq_some_iff.mp hu).1
        refine ⟨_, rfl, _, rfl, u, v, m, rfl, rfl, Alike.mono (s1.trans (h.2.trans sT)) m (each i u v hu hv), fun H4 s4 => ⟨_, s4 _ _ (sT _ _ h.1), ?_, ?_, ?_⟩⟩
        · rw [List.length_replicate]; exact Nat.lt_of_lt_of_le (by omega : i < 1000000) (by decide)
        · rw [upd_same, List.replicate_succ']
        · intro c o z
          have nD : c ≠ D := fun e => by subst e; rw [hD] at z; cases z
          rw [upd_ne nD]
          exact s4 _ _ (sT _ _ (h.2 _ _ z))
      · have e : (List.replicate xs.length true).all id = true := by rw [List.all_eq_true]; intro x hx; rw [List.eq_of_mem_replicate hx]; rfl
        rw [e]
        exact q _ (s1.trans h.2)
theorem same_ok {f : Addr} {fd : FuncData} (F : Fun K "_law_same" "_law_same" sSame f fd) (b2 : Binds K fd ["_law_found", "_law_due"] []) (mF : mg "_law_same" = some (.ref f)) (M : SameG mg) :
    ∀ n : Nat, FnOk P w K mg base CX0 n f fd ["_law_found", "_law_due"] (spSame n)
  | 0 => none_left fun vs H Q E h => by
    obtain ⟨x, y, m, _, e, _⟩ := h
    omega
  | n + 1 => ok_same F b2 mF (same_ok F b2 mF M n) M
end
end Rp

/-! xs[a:] = ys, ys another list: what the layer has no statement of. -/
namespace Rp
open PySem PySem.Spec PyProof.Rows L2
theorem tail_bounds {k n : Nat} (h : k ≤ n) : sliceBounds (some (k : Int)) none none n = ((k : Int), (n : Int), 1) := by
  simp only [sliceBounds, Option.getD_none, show ¬ ((k : Int) < 0) by omega, if_false, show (1 : Int) > 0 by decide, if_true]
  congr 1
  · omega
theorem tail_items (old fresh : List Value) (k : Nat) : old.toArray.extract 0 k ++ fresh.toArray ++ old.toArray.extract old.toArray.size old.toArray.size = (old.take k ++ fresh).toArray := by
  apply Array.toList_inj.mp
  simp
section
variable {prog : Program} {w : World} {A : Around} {E : Value → Shared → Prop} {s : Shared}
theorem store_tail {at_ src cut : Addr} {old fresh : Array Value} {n1 n2 : Nat} {vlo : Value} {k : Nat} {Q : Unit → Shared → Prop} (oe : s.heap.get? at_ = some { cls := .type "list", data := .seq old n1 })
    (fe : s.heap.get? src = some { cls := .type "list", data := .seq fresh n2 }) (apart : at_ ≠ src) (isCut : s.heap.IsSliceOf cut vlo .none .none) (pLo : IsPart vlo (some (k : Int))) (hk : k ≤ old.size) (room : old.size + fresh.size ≤ sizeLine)
    (go : Q () { s with heap := s.heap.update at_ (Obj.mapSeq fun xs => xs.extract 0 k ++ fresh ++ xs.extract old.size xs.size) }) : wpAny (model prog w) A (setItem (.ref at_) (.ref cut) (.ref src)) Q E s := by
  have lstIs : s.heap.IsList at_ old := PySem.IsL.isList oe
  have srcIs : s.heap.IsList src fresh := PySem.IsL.isList fe
  obtain ⟨oc, hoc, hcc, hdc⟩ := id isCut
  have cutIs : s.TypeIs (.ref cut) "slice" := ⟨oc, hoc, hcc⟩
  have noStep : ¬ ((rawPart none == rawInt 0) = true) := Bool.false_ne_true
  have other : Builtin.List.listSameRef (.ref at_) (.ref src) = false := by unfold Builtin.List.listSameRef; exact beq_eq_false_iff_ne.mpr apart
  have bound : ((fun xs : Array Value => xs.extract 0 k ++ fresh ++ xs.extract old.size xs.size) old).size ≤ sizeLine + 1 := by simp only [Array.size_append, Array.size_extract]; omega
  unfold setItem; try with_reducible refine wpAny_holding ?_
  first | refine wpAny_bind (wpAny_pure ?_) | skip
  refine wpAny_bind (wpAny_sequenceKey lstIs.typeIs (by decide) (wpAny_bind (wpAny_callSpecial?_slot (name := Str.ofString "__setitem__") lstIs.typeIs slot_list_setitem (wpAny_call_entry slot_list_setitem lstIs.typeIs entry_list_setitem ?_ (args_list_setitem _ _ _)))))
  show wpAny _ _ (Builtin.List.listSubscript? (.ref cut) >>= _) _ _ s
  refine wpAny_bind ?_; unfold Builtin.List.listSubscript?
  refine wpAny_bind (wpAny_specialOf cutIs slice_no_index ?_); simp only [Option.isNone_none, if_true]
  refine wpAny_pure ?_; show wpAny _ _ (typeOf (.ref cut) >>= _) _ _ s
  refine wpAny_bind (wpAny_typeOf cutIs ?_)
  first | rw [if_neg (by decide)] | refine PySem.W.KFB.if_not (by decide) ?_
  rw [listSliceParts_eq]; refine wpAny_bind (wpAny_bind (wpAny_field hoc hdc (x := .none) rfl (wpAny_bind (wpAny_listPart .none ?_))))
  rw [if_neg noStep]; refine wpAny_bind (wpAny_field hoc hdc (x := vlo) rfl (wpAny_bind (wpAny_listPart pLo ?_)))
  refine wpAny_bind (wpAny_field hoc hdc (x := .none) rfl (wpAny_bind (wpAny_listPart .none (wpAny_pure ?_))))
  first | simp only [other, Bool.false_eq_true, if_false] | refine PySem.W.KFB.if_not other ?_ | (dsimp only; rw [if_neg (by rw [other]; exact Bool.false_ne_true)])
  refine wpAny_bind (m := Builtin.List.listAllItems (.ref src) "must assign iterable to extended slice") ?_; unfold Builtin.List.listAllItems
  refine wpAny_bind (wpAny_typeOf srcIs.typeIs ?_)
  first | refine PySem.W.KFB.if_so (by decide) ?_ | rw [if_pos (by decide)] | simp only [beq_self_eq_true, Bool.true_or, if_true]
  unfold Builtin.List.listItems; refine wpAny_bind (wpAny_seqItems fe rfl (wpAny_pure ?_))
  refine wpAny_bind (wpAny_bind (wpAny_seqItems oe rfl (wpAny_pure ?_)))
  refine wpAny_bind (wpAny_of_eq ((sliceIndices_raw (some (k : Int)) none none old.size (by simp)).trans (congrArg (pure : Int × Int × Int → Sem (Int × Int × Int)) (tail_bounds hk))) ?_)
  show wpAny _ _ (if ((1 : Int) == 1) = true then _ else _) _ _ s; rw [if_pos (by decide)]
  refine wpAny_bind (wpAny_rule ?_); have small := notLongL room
  first | simp only [small, Bool.false_eq_true, if_false] | refine PySem.W.KFB.if_not small ?_
  first | refine wpAny_bind (wpAny_pure ?_) | skip
  show wpAny _ _ (updateSeq at_ (fun xs => xs.extract 0 ((k : Int)).toNat ++ fresh ++ xs.extract (max (k : Int) (old.size : Int)).toNat xs.size) >>= _) _ _ s
  rw [show (max (k : Int) (old.size : Int)).toNat = old.size by omega, Int.toNat_natCast]
  refine wpAny_bind (wpAny_updateSeq (hz := Nat.le_trans (Nat.le_add_right _ _) room) (_hz' := bound) oe rfl (wpAny_bind (wpAny_letGo ?_)))
  first | exact wpAny_bind (wpAny_pure (wpAny_pure ⟨.none, rfl, wpAny_pure go⟩)) | exact wpAny_pure ⟨.none, rfl, wpAny_pure go⟩
end
/-- xs[a:] = ys -/
def tTail (to : TE) (ta : TO) (tv : TE) : TS := fun D σ H => tv σ H fun y H1 => to σ H1 fun x H2 => ta σ H2 fun i H3 => ∃ (l b : Addr) (xs ys : List V) (k : Nat), y = .ref b ∧ x = .ref l ∧ i = some (k : Int) ∧ H3 l = some (.lst xs) ∧ H3 b = some (.lst ys) ∧ l ≠ b ∧ k ≤ xs.length ∧ xs.length + ys.length ≤ sizeLine ∧
  D.nx σ (upd H3 l (.lst (xs.take k ++ ys)))
section
variable {X : Cx} {o e value : Expr} {pos pos' p2 : Pos} {td tv : TE} {ta : TO}
theorem ps_tail (ho : PE X o td) (hi : PO X (some e) ta) (hv : PE X value tv) (hs : swapsWith value (some (.Subscript o (.Slice (some e) none none p2) pos')) pos.line X.env = pure false := by rfl) :
    PS X (.Assign [.Subscript o (.Slice (some e) none none p2) pos'] value pos) (tTail td ta tv) := by
  refine ⟨fun pins s σ H D I h => wpAny_Assign_Subscript (thn (hv.run pins s σ H _ I h) fun r s1 ⟨v, H1, I1, rv, q1⟩ => thn (ho.run pins s1 σ H1 _ I1 q1) fun u s2 ⟨x, H2, I2, rx, q2⟩ => ?_) hs⟩
  refine wpAny_Slice (thn (hi.run pins s2 σ H2 _ I2 q2) fun vl s3 ⟨i, H3, I3, pl, q3⟩ => ?_)
  obtain ⟨l, b, xs, ys, k, rfl, rfl, rfl, hl, hb, ne, hk, room, go⟩ := q3
  rw [evalPart_none]
  refine wpAny_pure (wpAny_pure ?_)
  cases rv
  cases rx
  have I4 : Inv X pins σ H3 { s3 with heap := s3.heap.push { cls := .type "slice", data := .fields #[vl, .none, .none] } } := I3.kept (t' := s3.toks) fun c ob w => Heap.get?_push_of_some _ w
  obtain ⟨_, old, n1, ro, lo, oe⟩ := I4.lstM hl
  obtain ⟨_, fresh, n2, rf, lf, fe⟩ := I4.lstM hb
  refine store_tail (k := k) oe fe ne (Heap.IsSliceOf.new ..) pl (by rw [List.size_toArray]; omega) (by rw [List.size_toArray, List.size_toArray]; omega) ?_
  refine ⟨σ, _, I4.lset (its' := old.take k ++ fresh) (t' := s3.toks) hl oe ?_ (Vals.append (ro.take _) rf) ?_, go⟩
  · exact tail_items old fresh k
  · rw [List.length_append, List.length_take]; omega
end
end Rp

/-! Texts of TERMs, and the fold that makes them. -/
namespace Rp
open PySem PySem.Spec PyProof.Rows L2
namespace Tm
/-- a sign with the texts of its parts -/
def put1 : Tm → List Str → Str
  | v n, _ => "x" ++ (Str.ofString (toString n))
  | z, _ => "0"
  | s _, ys => "s" ++ "(" ++ Txt.join "," ys ++ ")"
  | f _ _, ys => "f" ++ "(" ++ Txt.join "," ys ++ ")"
def txt : Tm → Str
  | v n => put1 (v n) []
  | z => put1 z []
  | s t => put1 (s t) [t.txt]
  | f l r => put1 (f l r) [l.txt, r.txt]
theorem txt_kids (t : Tm) : t.txt = t.put1 (t.kids.map txt) := by cases t <;> rfl
def small (t : Tm) : Prop := ∀ n ∈ t.nums, 0 ≤ n ∧ n ≤ 99
end Tm
theorem slen (a b : Str) : (a ++ b).length = a.length + b.length := Str.length_append a b
theorem num_len {n : Int} (h : 0 ≤ n ∧ n ≤ 99) : (Str.ofString (toString n)).length ≤ 3 := by
  rw [PySem.ofString_length]
  exact int_text_length_le10 (k := 2) (by decide) (by omega)
theorem join1 (a x : Str) : Txt.join a [x] = x := by rw [TL.join_eq]; simp [Str.join]
theorem join2 (a x y : Str) : Txt.join a [x, y] = x ++ a ++ y := by rw [TL.join_eq]; simp [Str.join]
theorem txt_len : ∀ t : Tm, t.small → t.txt.length ≤ 4 * t.size
  | .v n, h => by
    have := num_len (h n (by simp [Tm.nums]))
    show (("x" : Str) ++ (Str.ofString (toString n))).length ≤ 4
    rw [slen]
    have : ("x" : Str).length = 1 := by decide +kernel
    omega
  | .z, _ => by decide +kernel
  | .s t, h => by
    have := txt_len t h
    show (("s" : Str) ++ "(" ++ Txt.join "," [t.txt] ++ ")").length ≤ 4 * (t.size + 1)
    rw [join1, slen, slen, slen]
    have a : ("s" : Str).length = 1 := by decide +kernel
    have b : ("(" : Str).length = 1 := by decide +kernel
    have c : (")" : Str).length = 1 := by decide +kernel
    omega
  | .f l r, h => by
    have := txt_len l fun n hn => h n (by simp [Tm.nums, hn])
    have := txt_len r fun n hn => h n (by simp [Tm.nums, hn])
    show (("f" : Str) ++ "(" ++ Txt.join "," [l.txt, r.txt] ++ ")").length ≤ 4 * (l.size + r.size + 1)
    rw [join2, slen, slen, slen, slen, slen]
    have a : ("f" : Str).length = 1 := by decide +kernel
    have b : ("(" : Str).length = 1 := by decide +kernel
    have c : (")" : Str).length = 1 := by decide +kernel
    have d : ("," : Str).length = 1 := by decide +kernel
    omega
/-! ### the stack -/
def runs : List Tm → List Tm → List Tm → Prop
  | S, [], S' => S = S'
  | S, k :: r, S' => ∃ S0, S = S0 ++ k.kids ∧ runs (S0 ++ [k]) r S'
theorem runs_post : ∀ (t : Tm) (S r S' : List Tm), runs (S ++ [t]) r S' → runs S (t.rpost.reverse ++ r) S'
  | .v n, S, r, S', h => by simp only [Tm.rpost, List.reverse_singleton, List.singleton_append]; exact ⟨S, by simp [Tm.kids], h⟩
  | .z, S, r, S', h => by simp only [Tm.rpost, List.reverse_singleton, List.singleton_append]; exact ⟨S, by simp [Tm.kids], h⟩
  | .s t, S, r, S', h => by
    simp only [Tm.rpost, List.reverse_cons, List.append_assoc, List.singleton_append]
    exact runs_post t S _ _ ⟨S, by simp [Tm.kids], h⟩
  | .f l r', S, r, S', h => by
    simp only [Tm.rpost, List.reverse_cons, List.reverse_append, List.append_assoc, List.singleton_append]
    refine runs_post l S _ _ (runs_post r' (S ++ [l]) _ _ ⟨S, by simp [Tm.kids], h⟩)
theorem part_of : ∀ {t k : Tm}, k ∈ t.rpost → k.size ≤ t.size ∧ ∀ n ∈ k.nums, n ∈ t.nums
  | .v n, k, h => by simp [Tm.rpost] at h; subst h; exact ⟨Nat.le_refl _, fun n h => h⟩
  | .z, k, h => by simp [Tm.rpost] at h; subst h; exact ⟨Nat.le_refl _, fun n h => h⟩
  | .s t, k, h => by
    simp [Tm.rpost] at h
    rcases h with rfl | h
    · exact ⟨Nat.le_refl _, fun n h => h⟩
    · have := part_of h
      exact ⟨by simp only [Tm.size]; omega, this.2⟩
  | .f l r, k, h => by
    simp [Tm.rpost] at h
    rcases h with rfl | h | h
    · exact ⟨Nat.le_refl _, fun n h => h⟩
    · have := part_of h
      exact ⟨by simp only [Tm.size]; omega, fun n hn => List.mem_append.mpr (.inr (this.2 n hn))⟩
    · have := part_of h
      exact ⟨by simp only [Tm.size]; omega, fun n hn => List.mem_append.mpr (.inl (this.2 n hn))⟩
def spTextOf (K : PySem.W.Frag) : Sp := fun vs H Q _ => ∃ (v : V) (t : Tm) (a : Addr), vs = [v, .ref a] ∧ TmAt H v t ∧ t.small ∧ t.size ≤ 1000 ∧ H a = some (.lst ((t.kids.map Tm.txt).map V.str)) ∧ Q (.str t.txt) H
def spFold (fO : Addr) : Sp := fun vs H Q _ => ∃ (v : V) (t : Tm), vs = [v, .ref fO] ∧ TmAt H v t ∧ t.small ∧ t.size ≤ 1000 ∧ ∀ H', Same H H' → Q (.str t.txt) H'
def spTermText : Sp := fun vs H Q _ => ∃ (v : V) (t : Tm), vs = [v] ∧ TmAt H v t ∧ t.small ∧ t.size ≤ 1000 ∧ ∀ H', Same H H' → Q (.str t.txt) H'
section
variable {P : Program} {w : World} {K : PySem.W.Frag} {mg : Str → Option Value} {base : Heap}
theorem scTextOf : FnScope ["part", "texts", "inner"] ["part", "texts"] (defScope sTextOf) := ⟨rfl, rfl, rfl, by decide +kernel, rfl, by decide +kernel, by decide +kernel⟩
theorem ok_textof {f : Addr} {fd : FuncData} (F : Fun K "_text_of" "_text_of" sTextOf f fd) (mIsi : mg "isinstance" = none) (mInt : mg "int" = none) : FnOk P w K mg base CX0 1 f fd ["part", "texts"] (spTextOf K) := by
  refine F.ok scTextOf (fun vs H Q E h => ?_) (fun cdv A outer s H vs Q E hr h => ?_)
  · obtain ⟨v, t, a, rfl, _⟩ := h
    rfl
  obtain ⟨v, t, a, rfl, T, sm, sz, ha, q⟩ := h
  refine ⟨_, pss_cons (ps_if (pt_val (pe_callB (id := "isinstance") call_isi (by rfl) mIsi (by decide +kernel) (pa_cons (pv 0) (pa_cons (pe_bltn (v := .ty "int") (by rfl) mInt (by decide +kernel) rfl) pa_nil)))) (pss_one (ps_ret (pe_joined (.cons pe_str (.cons (pe_fmt (pv 0)) .nil))))) pss_nil)
    (pss_cons (ps_if (pt_not (pt_truth (pv 1) (by intro _; rfl))) (pss_one (ps_ret (pe_ix ix_tup (pv 0) pe_int (fun _ _ => rfl)))) pss_nil)
    (pss_cons (ps_set (i := 2) scTextOf.nd rfl (Or.inl rfl) (pe_bm PySem.F.plainAttrs_str PySem.F.slot_str_join PySem.F.type_str_join mt_join pe_str (pa_cons (pv 1) pa_nil)))
    (pss_one (ps_ret (pe_joined (.cons (pe_fmt (pe_ix ix_tup (pv 0) pe_int (fun _ _ => rfl))) (.cons pe_str (.cons (pe_fmt (pv 2)) (.cons pe_str .nil))))))))), ?_⟩
  have tl := txt_len t sm
  have big : (10000 : Nat) ≤ sizeLine := by decide
  rcases T.ty (K := K) with ⟨m, rfl, rfl⟩ | ⟨b, xs, rfl, hb, ty, no⟩
  · refine ⟨_, rfl, _, _, _, _, true, rfl, .ty "int", .base (.int m), kit_ii, true, rfl, iteT ?_⟩
    have hm := sm m (by simp [Tm.nums])
    refine ⟨_, rfl, ?_, _, rfl, .inr ⟨m, rfl, ?_, ?_⟩⟩
    · rw [Str.empty_append]; exact Nat.le_trans (by decide +kernel : ("x" : Str).length ≤ 10) (by decide)
    · have := Nat.log2_le_self m.natAbs
      omega
    · refine ⟨_, rfl, ?_, ?_⟩
      · rw [Str.empty_append, slen]
        have := num_len hm
        have : ("x" : Str).length = 1 := by decide +kernel
        exact Nat.le_trans (by omega : _ ≤ 10) (by decide)
      · rw [Str.empty_append]
        exact q
  · obtain ⟨a', ks, e, ha', hk, hks⟩ := T.tupled no
    cases e
    refine ⟨_, rfl, _, _, _, _, false, rfl, .ty "int", ty, kit_ti, false, rfl, iteF ?_⟩
    refine ⟨_, rfl, _, .inl ⟨_, .inl (.inl ha), rfl⟩, ?_⟩
    have lim : ∀ x : Str, x.length ≤ 10000 → x.length ≤ sizeLine := fun x h => Nat.le_trans h big
    have l1 : ("s" : Str).length = 1 := by decide +kernel
    have l2 : ("f" : Str).length = 1 := by decide +kernel
    have l3 : ("(" : Str).length = 1 := by decide +kernel
    have l4 : (")" : Str).length = 1 := by decide +kernel
    have l5 : ("," : Str).length = 1 := by decide +kernel
    cases t with
    | v n => exact absurd rfl (no n)
    | z =>
      refine iteT ⟨_, rfl, _, _, _, _, rfl, rfl, .inl (.inl ha'), at_of (j := 0) rfl rfl, q⟩
    | s t =>
      have tz : (Txt.join "," [t.txt]).length ≤ 9000 := by
        rw [join1]; have := txt_len t sm; simp only [Tm.size] at sz; omega
      refine iteF ⟨rfl, _, rfl, _, a, [t.txt], rfl, rfl, .inl (.inl (.inl ha)), ?_, ?_⟩
      · simp only [List.map_cons, List.map_nil, List.sum_cons, List.sum_nil, List.length_cons, List.length_nil]
        have := txt_len t sm; simp only [Tm.size] at sz; omega
      refine ⟨_, rfl, _, _, _, _, rfl, rfl, .inl (.inl ha'), at_of (j := 0) rfl rfl, .inl ⟨_, rfl, lim _ ?_, _, rfl, lim _ ?_, _, rfl, lim _ ?_, _, rfl, .inl ⟨_, rfl, lim _ ?_, _, rfl, lim _ ?_, _, rfl, lim _ ?_, ?_⟩⟩⟩
      · show ("s" : Str).length ≤ _; omega
      · show (Str.empty ++ ("s" : Str)).length ≤ _; rw [Str.empty_append]; omega
      · show (Str.empty ++ ("s" : Str) ++ "(").length ≤ _; rw [Str.empty_append, slen]; omega
      · omega
      · show (Str.empty ++ ("s" : Str) ++ "(" ++ Txt.join "," [t.txt]).length ≤ _; rw [Str.empty_append, slen, slen]; omega
      · show (Str.empty ++ ("s" : Str) ++ "(" ++ Txt.join "," [t.txt] ++ ")").length ≤ _; rw [Str.empty_append, slen, slen, slen]; omega
      · show Q (.str (Str.empty ++ ("s" : Str) ++ "(" ++ Txt.join "," [t.txt] ++ ")")) H; rw [Str.empty_append]; exact q
    | f l r =>
      have tz : (Txt.join "," [l.txt, r.txt]).length ≤ 9000 := by
        rw [join2, slen, slen]; have := txt_len l (fun n hn => sm n (by simp [Tm.nums, hn])); have := txt_len r (fun n hn => sm n (by simp [Tm.nums, hn])); simp only [Tm.size] at sz; omega
      refine iteF ⟨rfl, _, rfl, _, a, [l.txt, r.txt], rfl, rfl, .inl (.inl (.inl ha)), ?_, ?_⟩
      · simp only [List.map_cons, List.map_nil, List.sum_cons, List.sum_nil, List.length_cons, List.length_nil]
        have := txt_len l (fun n hn => sm n (by simp [Tm.nums, hn])); have := txt_len r (fun n hn => sm n (by simp [Tm.nums, hn])); simp only [Tm.size] at sz; omega
      refine ⟨_, rfl, _, _, _, _, rfl, rfl, .inl (.inl ha'), at_of (j := 0) rfl rfl, .inl ⟨_, rfl, lim _ ?_, _, rfl, lim _ ?_, _, rfl, lim _ ?_, _, rfl, .inl ⟨_, rfl, lim _ ?_, _, rfl, lim _ ?_, _, rfl, lim _ ?_, ?_⟩⟩⟩
      · show ("f" : Str).length ≤ _; omega
      · show (Str.empty ++ ("f" : Str)).length ≤ _; rw [Str.empty_append]; omega
      · show (Str.empty ++ ("f" : Str) ++ "(").length ≤ _; rw [Str.empty_append, slen]; omega
      · omega
      · show (Str.empty ++ ("f" : Str) ++ "(" ++ Txt.join "," [l.txt, r.txt]).length ≤ _; rw [Str.empty_append, slen, slen]; omega
      · show (Str.empty ++ ("f" : Str) ++ "(" ++ Txt.join "," [l.txt, r.txt] ++ ")").length ≤ _; rw [Str.empty_append, slen, slen, slen]; omega
      · show Q (.str (Str.empty ++ ("f" : Str) ++ "(" ++ Txt.join "," [l.txt, r.txt] ++ ")")) H; rw [Str.empty_append]; exact q
end
end Rp

namespace Rp
open PySem PySem.Spec PyProof.Rows L2
theorem drop_min {α : Type} (xs : List α) (i : Nat) : xs.drop (min i xs.length) = xs.drop i := by
  rcases Nat.le_total i xs.length with h | h
  · rw [Nat.min_eq_left h]
  · rw [Nat.min_eq_right h, List.drop_length, List.drop_of_length_le h]
theorem cut_from {xs : List V} {i : Nat} {a : Int} (h : a = (i : Nat)) : cutV xs (some a) none = xs.drop i := by
  subst h
  unfold cutV
  rw [HT.sIx_none, HT.sIx_nat, drop_min]
  refine List.take_of_length_le ?_
  rw [List.length_drop]
  omega
section
variable {P : Program} {w : World} {K : PySem.W.Frag} {mg : Str → Option Value} {base : Heap}
theorem scFold : FnScope ["term", "made_of", "made", "part", "first"] ["term", "made_of"] (defScope sFold) := ⟨rfl, rfl, rfl, by decide +kernel, rfl, by decide +kernel, by decide +kernel⟩
theorem ok_fold {f fI fP fO : Addr} {fd dI dP dO : FuncData} (F : Fun K "fold" "fold" sFold f fd)
    (GI : FnOk P w K mg base CX0 2 fI dI ["term"] spInside) (kI : PySem.W.keepIn K (.ref fI) = true) (bI : Binds K dI ["term"] []) (mI : mg "inside_out" = some (.ref fI))
    (GP : FnOk P w K mg base CX0 1 fP dP ["term"] spParts) (kP : PySem.W.keepIn K (.ref fP) = true) (bP : Binds K dP ["term"] []) (mP : mg "_parts" = some (.ref fP))
    (GO : FnOk P w K mg base CX0 1 fO dO ["part", "texts"] (spTextOf K)) (kO : PySem.W.keepIn K (.ref fO) = true) (bO : Binds K dO ["part", "texts"] []) (mLen : mg "len" = none) :
    FnOk P w K mg base CX0 3 f fd ["term", "made_of"] (spFold fO) := by
  refine F.ok scFold (fun vs H Q E h => ?_) (fun cdv A outer s H vs Q E hr h => ?_)
  · obtain ⟨v, t, rfl, _⟩ := h
    rfl
  obtain ⟨v, t, rfl, T, sm, sz, q⟩ := h
  have r1 : Room 1 _ := hr.mono (by decide)
  refine ⟨_, pss_cons (ps_set (i := 2) scFold.nd rfl (Or.inl rfl) (pe_lst pa_nil))
    (pss_cons (ps_for PassesOwn.never rfl (pi_list (pe_call GI hr rfl mI kI bI .nil pass0 (pa_cons (pv 0) pa_nil))) (pg_name (i := 3) scFold.nd rfl (Or.inl rfl))
      (pss_cons (ps_set (i := 4) scFold.nd rfl (Or.inl rfl) (pe_op op_sub (pe_callB call_len_seq (by rfl) mLen PySem.boot_len (pa_cons (pv 2) pa_nil)) (pe_callB call_len_seq (by rfl) mLen PySem.boot_len (pa_cons (pe_call GP r1 rfl mP kP bP .nil pass0 (pa_cons (pv 3) pa_nil)) pa_nil))))
      (pss_one (ps_tail (pv 2) (po_some (pv 4)) (pe_lst (pa_cons (pe_callL (i := 1) GO r1 rfl (Or.inl rfl) kO bO .nil pass0 (pa_cons (pv 3) (pa_cons (pe_slice sl_list (pv 2) (po_some (pv 4)) po_none) pa_nil))) pa_nil))))))
    (pss_one (ps_ret (pe_ix ix_list (pv 2) pe_int (fun _ _ => rfl))))), ?_⟩
  refine ⟨(by show 0 ≤ sizeLine; decide), fun m hm => ?_⟩
  have s0 := same_new hm (.lst ([] : List V))
  refine ⟨_, rfl, v, t, rfl, T.same s0, sz, fun p xs H1 hp h1 A1 s1 => ?_⟩
  have hm1 := s1 _ _ (upd_same : (upd H m (.lst ([] : List V))) m = some (.lst []))
  have pm : p ≠ m := (ne_of_none (upd_same : (upd H m (.lst ([] : List V))) m = some (.lst [])) hp).symm
  have len := A1.len
  rw [List.length_reverse, Tm.rpost_len] at len
  have post : t.rpost.reverse.length = t.size := by rw [List.length_reverse, Tm.rpost_len]
  have big : (10000 : Nat) ≤ sizeLine := by decide
  refine ⟨p, rfl, ⟨_, .inl (.inl h1)⟩, for_list (K := K) (a := p) (xs := xs) (fun i σ H2 => ∃ (S : List Tm) (x3 x4 : Option V), σ = [some v, some (.ref fO), some (.ref m), x3, x4] ∧ H2 m = some (.lst ((S.map Tm.txt).map V.str)) ∧
      runs S (t.rpost.reverse.drop i) [t] ∧ (∀ k ∈ S, k ∈ t.rpost) ∧ S.length ≤ i ∧ But m H1 H2) ⟨[], none, none, rfl, hm1, ?_, by simp, by simp, But.refl _ _⟩ (fun i σ H2 _ ⟨_, _, _, _, _, _, _, _, o⟩ => .inl (.inl (o _ _ h1 pm))) ?_ ?_⟩
  · have := runs_post t [] [] [t] rfl
    simpa using this
  · rintro i x σ H2 hi ⟨S, x3, x4, rfl, h2, run, parts, sl, o2⟩
    obtain ⟨k, hk, Tk⟩ := A1.get hi
    have li : i < t.rpost.reverse.length := (List.getElem?_eq_some_iff.mp hk).1
    have ek : t.rpost.reverse.drop i = k :: t.rpost.reverse.drop (i + 1) := by
      rw [List.drop_eq_getElem_cons li, (List.getElem?_eq_some_iff.mp hk).2]
    rw [ek] at run
    obtain ⟨S0, rfl, run⟩ := run
    have km : k ∈ t.rpost := List.mem_reverse.mp (List.mem_of_getElem? hk)
    have pk := part_of km
    have smk : k.small := fun n hn => sm n (pk.2 n hn)
    have T2 := Tk.but o2 hm1
    rw [List.length_append] at sl
    refine ⟨_, rfl, m, _, rfl, .inl (.inl (.inl h2)), _, rfl, x, k, rfl, T2, fun g ks H3 hg h3 A3 s3 => ?_⟩
    have kl := A3.len
    refine ⟨g, _, rfl, .inr (.inl (.inl h3)), _, _, rfl, rfl, ?_⟩
    have h23 := s3 _ _ h2
    have first : (((((S0 ++ k.kids).map Tm.txt).map V.str).length : Nat) : Int) - ((ks.length : Nat) : Int) = ((S0.length : Nat) : Int) := by
      rw [List.length_map, List.length_map, List.length_append, kl]; omega
    refine ⟨rfl, _, rfl, _, rfl, _, rfl, _, rfl, m, _, rfl, .inl (.inl h23), fun d hd => ?_⟩
    have dm : d ≠ m := (ne_of_none h23 hd).symm
    rw [cut_from (i := S0.length) first]
    have cut : (((S0 ++ k.kids).map Tm.txt).map V.str).drop S0.length = (k.kids.map Tm.txt).map V.str := by
      rw [List.map_append, List.map_append, List.drop_left' (by rw [List.length_map, List.length_map])]
    rw [cut]
    have s4 := same_new hd (.lst ((k.kids.map Tm.txt).map V.str))
    refine ⟨x, k, d, rfl, (T2.same s3).same s4, smk, by omega, upd_same, ?_⟩
    refine ⟨(by show 1 ≤ sizeLine; decide), fun b hb => ?_⟩
    have s5 := same_new hb (.lst [V.str k.txt])
    have h25 := s5 _ _ (s4 _ _ h23)
    refine ⟨_, rfl, _, rfl, _, rfl, m, b, _, _, S0.length, rfl, rfl, congrArg some first, h25, upd_same, ne_of_none (s4 _ _ h23) hb, ?_, ?_, ?_⟩
    · rw [List.length_map, List.length_map, List.length_append]; omega
    · rw [List.length_map, List.length_map, List.length_append, List.length_singleton]; omega
    · refine ⟨S0 ++ [k], _, _, rfl, ?_, run, ?_, ?_, ?_⟩
      · rw [upd_same, List.map_append, List.map_append, List.take_left' (by rw [List.length_map, List.length_map]), List.map_append, List.map_append]
        rfl
      · intro k' hk'
        rcases List.mem_append.mp hk' with z | z
        · exact parts k' (by simp [z])
        · simp at z; subst z; exact km
      · rw [List.length_append, List.length_singleton]
        have := List.length_append (as := S0) (bs := k.kids)
        omega
      · intro c o' z nc
        rw [upd_ne nc]
        exact s5 _ _ (s4 _ _ (s3 _ _ (o2 _ _ z nc)))
  · rintro σ H2 ⟨S, x3, x4, rfl, h2, run, parts, sl, o2⟩
    rw [List.drop_of_length_le (by omega)] at run
    obtain rfl : S = [t] := run
    refine ⟨_, rfl, m, _, _, _, rfl, rfl, .inl (.inl h2), at_of (j := 0) rfl rfl, q H2 ?_⟩
    exact fun c o z => o2 c o (s1 _ _ (s0 _ _ z)) (ne_of_none z hm)
theorem scTermText : FnScope ["term"] ["term"] (defScope sTermText) := ⟨rfl, rfl, rfl, by decide +kernel, rfl, by decide +kernel, by decide +kernel⟩
theorem ok_termtext {f fF fO : Addr} {fd dF : FuncData} (F : Fun K "term_text" "term_text" sTermText f fd)
    (GF : FnOk P w K mg base CX0 3 fF dF ["term", "made_of"] (spFold fO)) (kF : PySem.W.keepIn K (.ref fF) = true) (bF : Binds K dF ["term", "made_of"] []) (mF : mg "fold" = some (.ref fF)) (mO : mg "_text_of" = some (.ref fO)) :
    FnOk P w K mg base CX0 4 f fd ["term"] spTermText := by
  refine F.ok scTermText (fun vs H Q E h => ?_) (fun cdv A outer s H vs Q E hr h => ?_)
  · obtain ⟨v, t, rfl, _⟩ := h
    rfl
  obtain ⟨v, t, rfl, T, sm, sz, q⟩ := h
  refine ⟨_, pss_one (ps_ret (pe_call GF hr rfl mF kF bF .nil pass0 (pa_cons (pv 0) (pa_cons (pe_glob (v := .ref fO) rfl mO rfl) pa_nil)))), ?_⟩
  exact ⟨_, rfl, v, t, rfl, T, sm, sz, q⟩
end
end Rp

/-! A TERM's text, its brackets and commas blanked, cut at the blanks: its signs, ahead of their parts. -/
namespace Rp
open PySem PySem.Spec PyProof.Rows L2 TL
def blank1 (c d : Nat) : Nat := if d = c then 32 else d
theorem spl_ne (S : List Nat) : ∀ (k : Nat) (acc l : List Nat), spl S k acc l ≠ []
  | 0, acc, [] => by rw [spl_nil]; simp
  | k + 1, acc, [] => by rw [spl_nil]; simp
  | k + 1, acc, _ :: r => by show spl S k acc r ≠ []; exact spl_ne S k acc r
  | 0, acc, c :: r => by
    by_cases h : pre S (c :: r) = true
    · rw [spl_hit h]; simp
    · rw [spl_miss (by simpa using h)]; exact spl_ne S 0 _ r
theorem join_spl (c : Nat) : ∀ (l acc : List Nat), joinL [32] (spl [c] 0 acc l) = acc ++ l.map (blank1 c)
  | [], acc => by rw [spl_nil]; simp [joinL]
  | d :: r, acc => by
    by_cases h : d = c
    · have hp : pre [c] (d :: r) = true := by simp [pre, h]
      rw [spl_hit hp]
      have ih := join_spl c r []
      have ne := spl_ne [c] 0 [] r
      show joinL [32] (acc :: spl [c] 0 [] r) = _
      cases e : spl [c] 0 [] r with
      | nil => exact absurd e ne
      | cons q rest =>
        rw [e] at ih
        show acc ++ ([32] ++ joinL [32] (q :: rest)) = _
        rw [ih]
        simp [blank1, h]
    · have hp : pre [c] (d :: r) = false := by simp [pre, h]
      rw [spl_miss hp, join_spl c r]
      simp [blank1, h]
theorem repl_tl (x : Str) {c : Nat} (hc : c < 256) : tl (Txt.replace x ⟨#[c]⟩ ⟨#[32]⟩) = (tl x).map (blank1 c) := by
  rw [PySem.StrLaws.replace_one, tl_join, split_spl x ⟨#[c]⟩ (by show [c] ≠ []; simp) ?_]
  · show joinL [32] (spl [c] 0 [] (tl x)) = _
    rw [join_spl]
    simp
  · exact kind_ok (by simp [hc])
namespace Tm
def sgn : Tm → List Str
  | v n => ["x" ++ Str.ofString (toString n)]
  | z => ["0"]
  | s t => "s" :: t.sgn
  | f l r => "f" :: (l.sgn ++ r.sgn)
theorem sgn_len : ∀ t : Tm, t.sgn.length = t.size
  | v _ => rfl | z => rfl | s t => by simp [sgn, size, sgn_len t]
  | f l r => by simp [sgn, size, sgn_len l, sgn_len r]
end Tm
def b3 (d : Nat) : Nat := blank1 44 (blank1 41 (blank1 40 d))
theorem b3_same {d : Nat} (h : d ≠ 40 ∧ d ≠ 41 ∧ d ≠ 44) : b3 d = d := by
  unfold b3 blank1
  rw [if_neg h.1, if_neg h.2.1, if_neg h.2.2]
theorem b3_num {l : List Nat} (h : ∀ d ∈ l, 48 ≤ d ∧ d ≤ 57) : l.map b3 = l := by
  have : l.map b3 = l.map id := List.map_congr_left fun d hd => b3_same (by have := h d hd; omega)
  rw [this, List.map_id]
theorem numL_small (n : Nat) : ∀ d ∈ numL n, 48 ≤ d ∧ d ≤ 57 := fun d hd => numL_digits n d hd
def spc (t : Tm) : List Nat := (tl t.txt).map b3
theorem t_x : tl ("x" : Str) = [120] := by decide +kernel
theorem t_0 : tl ("0" : Str) = [48] := by decide +kernel
theorem t_s : tl ("s" : Str) = [115] := by decide +kernel
theorem t_f : tl ("f" : Str) = [102] := by decide +kernel
theorem t_open : tl ("(" : Str) = [40] := by decide +kernel
theorem t_close : tl (")" : Str) = [41] := by decide +kernel
theorem t_comma : tl ("," : Str) = [44] := by decide +kernel
theorem tl_int {n : Int} (h : 0 ≤ n) : tl (Str.ofString (toString n)) = numL n.toNat := by
  obtain ⟨k, rfl⟩ := Int.eq_ofNat_of_zero_le h
  rw [tl_num]
  rfl
theorem spc_v {n : Int} (h : 0 ≤ n) : spc (.v n) = 120 :: numL n.toNat := by
  show (tl (("x" : Str) ++ Str.ofString (toString n))).map b3 = _
  rw [tl_append, t_x, tl_int h, List.map_append, b3_num (numL_small _)]
  rfl
theorem spc_z : spc .z = [48] := by decide +kernel
theorem spc_s (t : Tm) : spc (.s t) = 115 :: 32 :: (spc t ++ [32]) := by
  show (tl (("s" : Str) ++ "(" ++ Txt.join "," [t.txt] ++ ")")).map b3 = _
  rw [join1, tl_append, tl_append, tl_append, t_s, t_open, t_close, List.map_append, List.map_append]
  rfl
theorem spc_f (l r : Tm) : spc (.f l r) = 102 :: 32 :: (spc l ++ 32 :: (spc r ++ [32])) := by
  show (tl (("f" : Str) ++ "(" ++ Txt.join "," [l.txt, r.txt] ++ ")")).map b3 = _
  rw [join2, tl_append, tl_append, tl_append, tl_append, tl_append, t_f, t_open, t_close, t_comma]
  simp only [List.map_append]
  show [102] ++ [32] ++ (spc l ++ [32] ++ spc r) ++ [32] = _
  simp
theorem space32 : Unicode.isSpace 32 = true := by decide +kernel
theorem nosp {d : Nat} (h : (48 ≤ d ∧ d ≤ 57) ∨ d = 115 ∨ d = 102 ∨ d = 120) : Unicode.isSpace d = false := by
  have all : ∀ k : Fin 128, ((48 ≤ k.val ∧ k.val ≤ 57) ∨ k.val = 115 ∨ k.val = 102 ∨ k.val = 120) → Unicode.isSpace k.val = false := by decide +kernel
  exact all ⟨d, by omega⟩ h
theorem word_step {p : List Nat} (hp : p ≠ []) (h : ∀ c ∈ p, Unicode.isSpace c = false) (ws : List (List Nat)) (rest : List Nat) : (p ++ 32 :: rest).foldl wstep (ws, []) = rest.foldl wstep (ws ++ [p], []) := by
  rw [List.foldl_append, wfold_word p ws [] h, List.nil_append, List.foldl_cons]
  have : wstep (ws, p) 32 = (ws ++ [p], []) := by unfold wstep; rw [if_pos space32]; exact if_neg hp
  rw [this]
theorem gap_step (ws : List (List Nat)) (rest : List Nat) : (32 :: rest).foldl wstep (ws, []) = rest.foldl wstep (ws, []) := by
  rw [List.foldl_cons]
  have : wstep (ws, []) 32 = (ws, []) := by unfold wstep; rw [if_pos space32]; exact if_pos rfl
  rw [this]
theorem fold_spc : ∀ (t : Tm) (_ : t.small) (ws : List (List Nat)) (rest : List Nat), (spc t ++ 32 :: rest).foldl wstep (ws, []) = rest.foldl wstep (ws ++ t.sgn.map tl, [])
  | .v n, h, ws, rest => by
    have h0 := (h n (by simp [Tm.nums])).1
    rw [spc_v h0, word_step (by simp) ?_]
    · show _ = List.foldl wstep (ws ++ [tl (("x" : Str) ++ Str.ofString (toString n))], []) rest
      rw [tl_append, t_x, tl_int h0]
      rfl
    · intro c hc
      rcases List.mem_cons.mp hc with rfl | hc
      · exact nosp (.inr (.inr (.inr rfl)))
      · exact nosp (.inl (numL_small _ c hc))
  | .z, h, ws, rest => by
    rw [spc_z, word_step (by simp) ?_]
    · show _ = List.foldl wstep (ws ++ [tl ("0" : Str)], []) rest
      rw [t_0]
    · intro c hc
      simp at hc
      exact nosp (.inl (by omega))
  | .s t, h, ws, rest => by
    rw [spc_s]
    show ([115] ++ 32 :: ((spc t ++ [32]) ++ 32 :: rest)).foldl wstep (ws, []) = _
    rw [word_step (by simp) (by intro c hc; simp at hc; exact nosp (.inr (.inl hc)))]
    rw [show (spc t ++ [32]) ++ 32 :: rest = spc t ++ 32 :: (32 :: rest) by simp, fold_spc t h, gap_step]
    simp [Tm.sgn, t_s]
  | .f l r, h, ws, rest => by
    rw [spc_f]
    show ([102] ++ 32 :: ((spc l ++ 32 :: (spc r ++ [32])) ++ 32 :: rest)).foldl wstep (ws, []) = _
    rw [word_step (by simp) (by intro c hc; simp at hc; exact nosp (.inr (.inr (.inl hc))))]
    rw [show (spc l ++ 32 :: (spc r ++ [32])) ++ 32 :: rest = spc l ++ 32 :: (spc r ++ 32 :: (32 :: rest)) by simp,
      fold_spc l (fun n hn => h n (by simp [Tm.nums, hn])), fold_spc r (fun n hn => h n (by simp [Tm.nums, hn])), gap_step]
    simp [Tm.sgn, t_f]
theorem wfin_gap (st : List (List Nat) × List Nat) : wfin (wstep st 32) = wfin st := by
  unfold wstep wfin
  rw [if_pos space32]
  by_cases h : st.2 = []
  · rw [if_pos h, if_pos h]
  · rw [if_neg h, if_neg h]
    simp
/-- the text with brackets and commas blanked -/
def blanked (x : Str) : Str := Txt.replace (Txt.replace (Txt.replace x "(" " ") ")" " ") "," " "
theorem blanked_tl (x : Str) : tl (blanked x) = (tl x).map b3 := by
  have e32 : (" " : Str) = ⟨#[32]⟩ := by decide +kernel
  have e40 : ("(" : Str) = ⟨#[40]⟩ := by decide +kernel
  have e41 : (")" : Str) = ⟨#[41]⟩ := by decide +kernel
  have e44 : ("," : Str) = ⟨#[44]⟩ := by decide +kernel
  unfold blanked
  rw [e32, e40, e41, e44, repl_tl _ (by decide), repl_tl _ (by decide), repl_tl _ (by decide), List.map_map, List.map_map]
  rfl
theorem words_txt (t : Tm) (h : t.small) : Txt.words (blanked t.txt) = t.sgn := by
  refine map_tl_inj ?_
  rw [words_tl, blanked_tl]
  show wfin ((spc t).foldl wstep ([], [])) = _
  rw [← wfin_gap]
  have : wstep ((spc t).foldl wstep ([], [])) 32 = (spc t ++ 32 :: []).foldl wstep ([], []) := by rw [List.foldl_append]; rfl
  rw [this, fold_spc t h]
  simp [wfin]
theorem blanked_len (x : Str) : (blanked x).length = x.length := by
  rw [len_tl, len_tl, blanked_tl, List.length_map]
end Rp

namespace Rp
open PySem PySem.Spec PyProof.Rows L2 TL
/-- the sign of a variable -/
def xn (n : Int) : Str := "x" ++ Str.ofString (toString n)
theorem xn_facts {n : Int} (h : 0 ≤ n ∧ n ≤ 99) : cutS (xn n) none (some 1) = "x" ∧ (xn n).length ≤ 3 ∧ cutS (xn n) (some 1) none = Str.ofString (toString n) ∧ Txt.isdecimal (Str.ofString (toString n)) = true ∧ intText? (Str.ofString (toString n)) = some n ∧
    xn n ≠ "0" ∧ xn n ≠ "s" ∧ xn n ≠ "f" := by
  have all : ∀ k : Fin 100, cutS (xn (k.val : Int)) none (some 1) = "x" ∧ (xn (k.val : Int)).length ≤ 3 ∧ cutS (xn (k.val : Int)) (some 1) none = Str.ofString (toString (k.val : Int)) ∧ Txt.isdecimal (Str.ofString (toString (k.val : Int))) = true ∧
    xn (k.val : Int) ≠ "0" ∧ xn (k.val : Int) ≠ "s" ∧ xn (k.val : Int) ≠ "f" := by decide +kernel
  obtain ⟨k, rfl⟩ := Int.eq_ofNat_of_zero_le h.1
  obtain ⟨a, b, c, d, e, f, g⟩ := all ⟨k, by omega⟩
  exact ⟨a, b, c, d, int_num (Nat.le_trans (numL_len (k := 2) (by decide) (by omega)) (by decide)), e, f, g⟩
def spNumberOf : Sp := fun vs H Q _ => ∃ n : Int, vs = [.str (xn n)] ∧ 0 ≤ n ∧ n ≤ 99 ∧ Q (.int n) H
section
variable {P : Program} {w : World} {K : PySem.W.Frag} {mg : Str → Option Value} {base : Heap}
theorem scNumberOf : FnScope ["sign"] ["sign"] (defScope sNumberOf) := ⟨rfl, rfl, rfl, by decide +kernel, rfl, by decide +kernel, by decide +kernel⟩
theorem ok_numberof {f : Addr} {fd : FuncData} (F : Fun K "_number_of" "_number_of" sNumberOf f fd) (mLen : mg "len" = none) (mInt : mg "int" = none) : FnOk P w K mg base CX0 1 f fd ["sign"] spNumberOf := by
  refine F.ok scNumberOf (fun vs H Q E h => ?_) (fun cdv A outer s H vs Q E hr h => ?_)
  · obtain ⟨n, rfl, _⟩ := h
    rfl
  obtain ⟨n, rfl, h0, h1, q⟩ := h
  refine ⟨_, pss_cons (ps_if (PW.pt (pw_and (pt_cmpR op_eq (pe_slice sl_str (pv 0) po_none (po_some pe_int)) pe_str (nomark _))
      (pw_and (pt_cmpR op_le (pe_callB call_len_str (by rfl) mLen PySem.boot_len (pa_cons (pv 0) pa_nil)) pe_int (nomark _))
      (pw_and1 (pt_val (pe_bm0 PySem.F.plainAttrs_str PySem.F.slot_str_isdecimal PySem.F.type_str_isdecimal mt_isdecimal (pe_slice sl_str (pv 0) (po_some pe_int) po_none)))))))
      (pss_one (ps_ret (pe_callTy call_int_str (by rfl) mInt (by decide +kernel) (pa_cons (pe_slice sl_str (pv 0) (po_some pe_int) po_none) pa_nil)))) pss_nil)
    (pss_one (ps_ret pe_non)), ?_⟩
  obtain ⟨f1, f2, f3, f4, f5, _⟩ := xn_facts ⟨h0, h1⟩
  have big : (10000 : Nat) ≤ sizeLine := by decide
  have nl := num_len ⟨h0, h1⟩
  refine ⟨_, rfl, 1, rfl, xn n, rfl, by omega, ?_⟩
  rw [f1]
  refine ⟨rfl, true, congrArg V.bl (decide_eq_true rfl), iteT ?_⟩
  refine ⟨_, rfl, xn n, rfl, by omega, _, _, rfl, rfl, true, congrArg V.bl (decide_eq_true (by omega)), iteT ?_⟩
  refine ⟨_, rfl, 1, rfl, xn n, rfl, by omega, rfl, _, rfl, rfl, trivial, true, ?_, iteT ?_⟩
  · rw [f3, f4]
  · refine ⟨_, rfl, 1, rfl, xn n, rfl, by omega, _, n, rfl, ?_, ?_, q⟩
    · rw [f3]; exact f5
    · rw [f3]; omega
end
end Rp

namespace Rp
open PySem PySem.Spec PyProof.Rows L2 TL
namespace Tm
/-- the parts, each ahead of its own -/
def ahead : Tm → List Tm
  | v n => [v n] | z => [z] | s t => s t :: t.ahead | f l r => f l r :: (l.ahead ++ r.ahead)
def sign1 : Tm → Str
  | v n => xn n | z => "0" | s _ => "s" | f _ _ => "f"
theorem sgn_ahead : ∀ t : Tm, t.sgn = t.ahead.map sign1
  | v n => rfl | z => rfl | s t => by simp [sgn, ahead, sign1, sgn_ahead t]
  | f l r => by simp [sgn, ahead, sign1, sgn_ahead l, sgn_ahead r]
theorem ahead_len : ∀ t : Tm, t.ahead.length = t.size
  | v _ => rfl | z => rfl | s t => by simp [ahead, size, ahead_len t]
  | f l r => by simp [ahead, size, ahead_len l, ahead_len r]
end Tm
theorem ahead_small : ∀ {t k : Tm}, k ∈ t.ahead → t.small → k.small
  | .v n, k, h, s => by simp [Tm.ahead] at h; subst h; exact s
  | .z, k, h, s => by simp [Tm.ahead] at h; subst h; exact s
  | .s t, k, h, s => by
    simp [Tm.ahead] at h
    rcases h with rfl | h
    · exact s
    · exact ahead_small (t := t) h s
  | .f l r, k, h, s => by
    simp [Tm.ahead] at h
    rcases h with rfl | h | h
    · exact s
    · exact ahead_small (t := l) h fun n hn => s n (by simp [Tm.nums, hn])
    · exact ahead_small (t := r) h fun n hn => s n (by simp [Tm.nums, hn])
def runsR : List Tm → List Tm → List Tm → Prop
  | S, [], S' => S = S'
  | S, k :: r, S' => ∃ S0, S = S0 ++ k.kids.reverse ∧ runsR (S0 ++ [k]) r S'
theorem runsR_post : ∀ (t : Tm) (S r S' : List Tm), runsR (S ++ [t]) r S' → runsR S (t.ahead.reverse ++ r) S'
  | .v n, S, r, S', h => by simp only [Tm.ahead, List.reverse_singleton, List.singleton_append]; exact ⟨S, by simp [Tm.kids], h⟩
  | .z, S, r, S', h => by simp only [Tm.ahead, List.reverse_singleton, List.singleton_append]; exact ⟨S, by simp [Tm.kids], h⟩
  | .s t, S, r, S', h => by
    simp only [Tm.ahead, List.reverse_cons, List.append_assoc, List.singleton_append]
    exact runsR_post t S _ _ ⟨S, by simp [Tm.kids], h⟩
  | .f l r', S, r, S', h => by
    simp only [Tm.ahead, List.reverse_cons, List.reverse_append, List.append_assoc, List.singleton_append]
    exact runsR_post r' S _ _ (runsR_post l (S ++ [r']) _ _ ⟨S, by simp [Tm.kids], h⟩)
def spFromSigns : Sp := fun vs H Q _ => ∃ (p : Addr) (t : Tm), vs = [.ref p] ∧ H p = some (.lst (t.sgn.map V.str)) ∧ t.small ∧ t.size ≤ 1000 ∧ ∀ (v : V) (H' : Hp), TmAt H' v t → Same H H' → Q v H'
theorem str_ne {x y : Str} (h : x ≠ y) : decide (V.str x = V.str y) = false := decide_eq_false fun z => h (V.str.inj z)
section
variable {P : Program} {w : World} {K : PySem.W.Frag} {mg : Str → Option Value} {base : Heap}
theorem scFromSigns : FnScope ["signs", "made", "sign", "left"] ["signs"] (defScope sFromSigns) := ⟨rfl, rfl, rfl, by decide +kernel, rfl, by decide +kernel, by decide +kernel⟩
theorem ok_fromsigns {f fN : Addr} {fd dN : FuncData} (F : Fun K "_from_signs" "_from_signs" sFromSigns f fd)
    (GN : FnOk P w K mg base CX0 1 fN dN ["sign"] spNumberOf) (kN : PySem.W.keepIn K (.ref fN) = true) (bN : Binds K dN ["sign"] []) (mN : mg "_number_of" = some (.ref fN))
    (mLen : mg "len" = none) (mRev : mg "reversed" = none) : FnOk P w K mg base CX0 2 f fd ["signs"] spFromSigns := by
  refine F.ok scFromSigns (fun vs H Q E h => ?_) (fun cdv A outer s H vs Q E hr h => ?_)
  · obtain ⟨p, t, rfl, _⟩ := h
    rfl
  obtain ⟨p, t, rfl, hp, sm, sz, q⟩ := h
  refine ⟨_, pss_cons (ps_set (i := 1) scFromSigns.nd rfl (Or.inl rfl) (pe_lst pa_nil))
    (pss_cons (ps_for PassesOwn.never rfl (pi_reversed (by rfl) mRev (pa_cons (pv 0) pa_nil)) (pg_name (i := 2) scFromSigns.nd rfl (Or.inl rfl))
      (pss_one (ps_if (pt_cmpR op_eq (pv 2) pe_str (nomark _)) (pss_one (ps_expr (pe_bm PySem.F.plainAttrs_list PySem.F.slot_list_append PySem.F.type_list_append mt_append (pv 1) (pa_cons (pe_tup (pa_cons pe_str pa_nil)) pa_nil))))
      (pss_one (ps_if (PW.pt (pw_and (pt_cmpR op_eq (pv 2) pe_str (nomark _)) (pw_and1 (pt_truth (pv 1) (by intro _; rfl)))))
        (pss_one (ps_expr (pe_bm PySem.F.plainAttrs_list PySem.F.slot_list_append PySem.F.type_list_append mt_append (pv 1) (pa_cons (pe_tup (pa_cons pe_str (pa_cons (pe_bm0 PySem.F.plainAttrs_list PySem.F.slot_list_pop PySem.F.type_list_pop mt_pop (pv 1)) pa_nil))) pa_nil))))
      (pss_one (ps_if (PW.pt (pw_and (pt_cmpR op_eq (pv 2) pe_str (nomark _)) (pw_and1 (pt_cmpR op_gt (pe_callB call_len_seq (by rfl) mLen PySem.boot_len (pa_cons (pv 1) pa_nil)) pe_int (nomark _)))))
        (pss_cons (ps_set (i := 3) scFromSigns.nd rfl (Or.inl rfl) (pe_bm0 PySem.F.plainAttrs_list PySem.F.slot_list_pop PySem.F.type_list_pop mt_pop (pv 1)))
        (pss_one (ps_expr (pe_bm PySem.F.plainAttrs_list PySem.F.slot_list_append PySem.F.type_list_append mt_append (pv 1) (pa_cons (pe_tup (pa_cons pe_str (pa_cons (pv 3) (pa_cons (pe_bm0 PySem.F.plainAttrs_list PySem.F.slot_list_pop PySem.F.type_list_pop mt_pop (pv 1)) pa_nil)))) pa_nil)))))
      (pss_one (ps_if (pt_cmpR op_notN (pe_call GN hr rfl mN kN bN .nil pass0 (pa_cons (pv 2) pa_nil)) pe_non (nomark _))
        (pss_one (ps_expr (pe_bm PySem.F.plainAttrs_list PySem.F.slot_list_append PySem.F.type_list_append mt_append (pv 1) (pa_cons (pe_call GN hr rfl mN kN bN .nil pass0 (pa_cons (pv 2) pa_nil)) pa_nil))))
        (pss_one (ps_ret pe_non)))))))))))
    (pss_one (ps_ret (pe_ifExp (pt_cmpR op_eq (pe_callB call_len_seq (by rfl) mLen PySem.boot_len (pa_cons (pv 1) pa_nil)) pe_int (nomark _)) (pe_ix ix_list (pv 1) pe_int (fun _ _ => rfl)) pe_non)))), ?_⟩
  refine ⟨(by show 0 ≤ sizeLine; decide), fun m hm => ?_⟩
  have s0 := same_new hm (.lst ([] : List V))
  have hp1 := s0 _ _ hp
  have pm : p ≠ m := ne_of_none hp hm
  have big : (10000 : Nat) ≤ sizeLine := by decide
  have xl : (t.sgn.map V.str).length = t.size := by rw [List.length_map, Tm.sgn_len]
  have al : t.ahead.length = t.size := Tm.ahead_len t
  refine ⟨_, rfl, p, _, rfl, .inl (.inl hp1), RT.for_Itv (K := K) (a := p) (xs := t.sgn.map V.str) (fun i σ H2 => ∃ (S : List Tm) (ws : List V) (x2 x3 : Option V), σ = [some (.ref p), some (.ref m), x2, x3] ∧ H2 m = some (.lst ws) ∧ AllAt H2 ws S ∧
      runsR S (t.ahead.reverse.drop i) [t] ∧ S.length ≤ i ∧ But m (upd H m (.lst ([] : List V))) H2) ⟨[], [], none, none, rfl, upd_same, trivial, ?_, by simp, But.refl _ _⟩ (fun i σ H2 ⟨_, _, _, _, _, _, _, _, _, o⟩ => .inl (.inl (o _ _ hp1 pm))) ?_ ?_⟩
  · have := runsR_post t [] [] [t] rfl
    simpa using this
  · rintro i x σ H2 hi hx ⟨S, ws, x2, x3, rfl, h2, AS, run, sl, o2⟩
    rw [xl] at hi hx
    have li : i < t.ahead.reverse.length := by rw [List.length_reverse]; omega
    obtain ⟨k, hk⟩ : ∃ k, t.ahead.reverse[i]? = some k := ⟨_, List.getElem?_eq_getElem li⟩
    have ex : x = .str k.sign1 := by
      rw [Tm.sgn_ahead, List.map_map, List.getElem?_map] at hx
      rw [List.getElem?_reverse (by omega), al] at hk
      rw [hk] at hx
      simpa using hx.symm
    subst ex
    have ek : t.ahead.reverse.drop i = k :: t.ahead.reverse.drop (i + 1) := by
      rw [List.drop_eq_getElem_cons li, (List.getElem?_eq_some_iff.mp hk).2]
    rw [ek] at run
    obtain ⟨S0, rfl, run⟩ := run
    have km : k ∈ t.ahead := List.mem_reverse.mp (List.mem_of_getElem? hk)
    have smk := ahead_small km sm
    have wl := AS.len
    rw [List.length_append] at sl
    have mNone : H m = none := hm
    have n0s : ("0" : Str) ≠ "s" := by decide +kernel
    have n0f : ("0" : Str) ≠ "f" := by decide +kernel
    have nsf : ("s" : Str) ≠ "f" := by decide +kernel
    have nall : ∀ (g : Addr) (H3 : Hp), H3 g = none → (∀ c o, (upd H m (.lst ([] : List V))) c = some o → c ≠ m → H3 c = some o) → ∀ c o, (upd H m (.lst ([] : List V))) c = some o → c ≠ m → c ≠ g := fun g H3 hg st c o z nc e => by
      subst e
      have := st c o z nc
      rw [hg] at this
      cases this
    cases k with
    | v n =>
      have hn := smk n (by simp [Tm.nums])
      obtain ⟨_, _, _, _, _, g0, gs, gf⟩ := xn_facts hn
      have e0 : S0 ++ (Tm.v n).kids.reverse = S0 := by simp [Tm.kids]
      rw [e0] at AS wl
      refine ⟨_, rfl, rfl, false, congrArg V.bl (str_ne g0), iteF ?_⟩
      refine ⟨_, rfl, rfl, false, congrArg V.bl (str_ne gs), iteF ?_⟩
      refine iteF ?_
      refine ⟨_, rfl, rfl, false, congrArg V.bl (str_ne gf), iteF ?_⟩
      refine iteF ?_
      refine ⟨_, rfl, n, rfl, hn.1, hn.2, rfl, true, congrArg (fun z => V.bl (!z)) (decide_eq_false (fun z => nomatch z)), iteT ?_⟩
      refine ⟨_, rfl, .inl ⟨rfl, _, .inl (.inl h2)⟩, _, rfl, n, rfl, hn.1, hn.2, m, ws, _, rfl, rfl, h2, by omega, ?_⟩
      refine ⟨S0 ++ [.v n], ws ++ [.int n], _, _, rfl, upd_same, ?_, run, by rw [List.length_append, List.length_singleton]; omega, fun c o z nc => by rw [upd_ne nc]; exact o2 c o z nc⟩
      have keep : ∀ a xs, H2 a = some (.tup xs) → (upd H2 m (.lst (ws ++ [.int n]))) a = some (.tup xs) := fun a xs z => by rw [upd_ne (ne_of z h2 (by intro z; cases z))]; exact z
      exact (AS.mono keep).append ⟨.v n, trivial⟩
    | z =>
      have e0 : S0 ++ (Tm.z).kids.reverse = S0 := by simp [Tm.kids]
      rw [e0] at AS wl
      refine ⟨_, rfl, rfl, true, congrArg V.bl (decide_eq_true rfl), iteT ?_⟩
      refine ⟨_, rfl, .inl ⟨rfl, _, .inl (.inl h2)⟩, (by show 1 ≤ sizeLine; decide), fun g hg => ?_⟩
      have s3 := same_new hg (.tup [V.str "0"])
      have h3 := s3 _ _ h2
      refine ⟨m, ws, _, rfl, rfl, h3, by omega, ?_⟩
      have keep : ∀ a xs, (upd H2 g (.tup [V.str "0"])) a = some (.tup xs) → (upd (upd H2 g (.tup [V.str "0"])) m (.lst (ws ++ [.ref g]))) a = some (.tup xs) := fun a xs z => by rw [upd_ne (ne_of z h3 (by intro z; cases z))]; exact z
      refine ⟨S0 ++ [.z], ws ++ [.ref g], _, _, rfl, upd_same, ?_, run, by rw [List.length_append, List.length_singleton]; omega, fun c o z nc => by rw [upd_ne nc]; exact s3 _ _ (o2 c o z nc)⟩
      exact (AS.mono fun a xs z => keep a xs (s3 _ _ z)).append ⟨.z (keep _ _ upd_same), trivial⟩
    | s t' =>
      obtain ⟨w0, w1, rfl, A0, A1⟩ : ∃ w0 w1, ws = w0 ++ [w1] ∧ AllAt H2 w0 S0 ∧ TmAt H2 w1 t' := by
        rcases List.eq_nil_or_concat ws with e | ⟨M, y, e⟩
        · subst e; simp [Tm.kids] at wl
        · rw [List.concat_eq_append] at e
          subst e
          obtain ⟨L1, L2, e2, B1, B2⟩ := AS.parted
          match L2, B2 with
          | [u], B2 =>
            have e2' : S0 ++ [t'] = L1 ++ [u] := e2
            obtain ⟨e3, e4⟩ := List.append_inj' e2' rfl
            injection e4 with e4
            subst e3 e4
            exact ⟨M, y, rfl, B1, B2.1⟩
      refine ⟨_, rfl, rfl, false, congrArg V.bl (str_ne n0s.symm), iteF ?_⟩
      refine ⟨_, rfl, rfl, true, congrArg V.bl (decide_eq_true rfl), iteT ?_⟩
      refine ⟨_, rfl, true, .inl ⟨_, .inl (.inl h2), by simp⟩, iteT ?_⟩
      refine ⟨_, rfl, .inl ⟨rfl, _, .inl (.inl h2)⟩, _, rfl, .inl ⟨rfl, _, .inl (.inl h2)⟩, m, _, w1, rfl, rfl, h2, by simp, (by show 2 ≤ sizeLine; decide), fun g hg => ?_⟩
      rw [List.dropLast_concat] at hg ⊢
      have s3 := same_new hg (.tup [V.str "s", w1])
      have hm3 := s3 _ _ (upd_same : (upd H2 m (.lst w0)) m = some (.lst w0))
      have sl' : w0.length < sizeLine := by rw [A0.len]; omega
      refine ⟨m, w0, _, rfl, rfl, hm3, sl', ?_⟩
      have k1 : ∀ a xs, H2 a = some (.tup xs) → (upd H2 m (.lst w0)) a = some (.tup xs) := fun a xs z => by rw [upd_ne (ne_of z h2 (by intro z; cases z))]; exact z
      have k2 : ∀ a xs, (upd (upd H2 m (.lst w0)) g (.tup [V.str "s", w1])) a = some (.tup xs) → (upd (upd (upd H2 m (.lst w0)) g (.tup [V.str "s", w1])) m (.lst (w0 ++ [.ref g]))) a = some (.tup xs) := fun a xs z => by rw [upd_ne (ne_of z hm3 (by intro z; cases z))]; exact z
      have k3 : ∀ a xs, H2 a = some (.tup xs) → (upd (upd (upd H2 m (.lst w0)) g (.tup [V.str "s", w1])) m (.lst (w0 ++ [.ref g]))) a = some (.tup xs) := fun a xs z => k2 a xs (s3 _ _ (k1 a xs z))
      refine ⟨S0 ++ [.s t'], w0 ++ [.ref g], _, _, rfl, upd_same, (A0.mono k3).append ⟨.s (k2 _ _ upd_same) (A1.mono k3), trivial⟩, run, by rw [List.length_append, List.length_singleton]; omega, fun c o z nc => ?_⟩
      rw [upd_ne nc]
      exact s3 _ _ (by rw [upd_ne nc]; exact o2 c o z nc)
    | f l r =>
      obtain ⟨w0, wr, wl', rfl, A0, Ar, Al⟩ : ∃ w0 wr wl', ws = w0 ++ [wr] ++ [wl'] ∧ AllAt H2 w0 S0 ∧ TmAt H2 wr r ∧ TmAt H2 wl' l := by
        have eS : S0 ++ (Tm.f l r).kids.reverse = S0 ++ [r] ++ [l] := by simp [Tm.kids]
        rw [eS] at AS wl
        rcases List.eq_nil_or_concat ws with e | ⟨M, y, e⟩
        · subst e; simp at wl
        · rw [List.concat_eq_append] at e
          subst e
          obtain ⟨L1, L2, e2, B1, B2⟩ := AS.parted
          match L2, B2 with
          | [u], B2 =>
            obtain ⟨e3, e4⟩ := List.append_inj' e2 rfl
            injection e4 with e4
            subst e3 e4
            rcases List.eq_nil_or_concat M with e | ⟨M', y', e⟩
            · subst e; have := B1.len; simp at this
            · rw [List.concat_eq_append] at e
              subst e
              obtain ⟨L3, L4, e5, B3, B4⟩ := B1.parted
              match L4, B4 with
              | [u'], B4 =>
                obtain ⟨e6, e7⟩ := List.append_inj' e5 rfl
                injection e7 with e7
                subst e6 e7
                exact ⟨M', y', y, rfl, B3, B4.1, B2.1⟩
      have hl2 : decide ((1 : Int) < (((w0 ++ [wr] ++ [wl']).length : Nat) : Int)) = true := decide_eq_true (by simp; omega)
      refine ⟨_, rfl, rfl, false, congrArg V.bl (str_ne n0f.symm), iteF ?_⟩
      refine ⟨_, rfl, rfl, false, congrArg V.bl (str_ne nsf.symm), iteF ?_⟩
      refine iteF ?_
      refine ⟨_, rfl, rfl, true, congrArg V.bl (decide_eq_true rfl), iteT ?_⟩
      refine ⟨_, rfl, m, _, rfl, .inl (.inl (.inl h2)), _, _, rfl, rfl, true, congrArg V.bl hl2, iteT ?_⟩
      refine ⟨_, rfl, .inl ⟨rfl, _, .inl (.inl h2)⟩, m, _, wl', rfl, rfl, h2, by simp, ?_⟩
      rw [List.dropLast_concat]
      have h3 : (upd H2 m (.lst (w0 ++ [wr]))) m = some (.lst (w0 ++ [wr])) := upd_same
      refine ⟨_, rfl, .inl ⟨rfl, _, .inl (.inl h3)⟩, _, rfl, _, rfl, .inl ⟨rfl, _, .inl (.inl h3)⟩, m, _, wr, rfl, rfl, h3, by simp, (by show 3 ≤ sizeLine; decide), fun g hg => ?_⟩
      rw [List.dropLast_concat, upd_upd] at hg ⊢
      have s3 := same_new hg (.tup [V.str "f", wl', wr])
      have hm3 := s3 _ _ (upd_same : (upd H2 m (.lst w0)) m = some (.lst w0))
      have sl' : w0.length < sizeLine := by rw [A0.len]; omega
      refine ⟨m, w0, _, rfl, rfl, hm3, sl', ?_⟩
      have k1 : ∀ a xs, H2 a = some (.tup xs) → (upd H2 m (.lst w0)) a = some (.tup xs) := fun a xs z => by rw [upd_ne (ne_of z h2 (by intro z; cases z))]; exact z
      have k2 : ∀ a xs, (upd (upd H2 m (.lst w0)) g (.tup [V.str "f", wl', wr])) a = some (.tup xs) → (upd (upd (upd H2 m (.lst w0)) g (.tup [V.str "f", wl', wr])) m (.lst (w0 ++ [.ref g]))) a = some (.tup xs) := fun a xs z => by rw [upd_ne (ne_of z hm3 (by intro z; cases z))]; exact z
      have k3 : ∀ a xs, H2 a = some (.tup xs) → (upd (upd (upd H2 m (.lst w0)) g (.tup [V.str "f", wl', wr])) m (.lst (w0 ++ [.ref g]))) a = some (.tup xs) := fun a xs z => k2 a xs (s3 _ _ (k1 a xs z))
      refine ⟨S0 ++ [.f l r], w0 ++ [.ref g], _, _, rfl, upd_same, (A0.mono k3).append ⟨.f (k2 _ _ upd_same) (Al.mono k3) (Ar.mono k3), trivial⟩, run, by rw [List.length_append, List.length_singleton]; omega, fun c o z nc => ?_⟩
      rw [upd_ne nc]
      exact s3 _ _ (by rw [upd_ne nc]; exact o2 c o z nc)
  · rintro σ H2 ⟨S, ws, x2, x3, rfl, h2, AS, run, sl, o2⟩
    rw [List.drop_of_length_le (by rw [List.length_reverse, xl, al]; exact Nat.le_refl _)] at run
    obtain rfl : S = [t] := run
    match ws, AS with
    | [x], AS =>
      refine ⟨_, rfl, m, _, rfl, .inl (.inl (.inl h2)), rfl, true, congrArg V.bl (decide_eq_true rfl), iteT ?_⟩
      refine ⟨_, rfl, m, _, _, _, rfl, rfl, .inl (.inl h2), at_of (j := 0) rfl rfl, q x H2 AS.1 ?_⟩
      exact fun c o z => o2 c o (s0 _ _ z) (ne_of_none z hm)
end
end Rp

namespace Rp
open PySem PySem.Spec PyProof.Rows L2 TL CwR
section
variable {X : Cx} {o e : Expr} {to te : TE}
/-- words of what wants a token -/
theorem pet_words {apos pos : Pos} (ho : PET X o to) (hbase : attributeBase o "split" X.env (eval o X.env) = eval o X.env := by rfl) (hline : (apos.endLine == pos.line) = true := by rfl) :
    PET X (.Call (.Attribute o "split" apos) [] [] pos) (tM0 (fun x xs H Q => ∃ a, x = .str a ∧ xs = [] ∧ a.length + 2 ≤ sizeLine ∧ rNewStrs (Txt.words a) H Q) to) := by
  intro pins s σ H Q tk I h
  refine PySem.Call_method0 hbase hline (thn (ho pins s σ H _ tk I h) fun recv s1 ⟨x, H1, I1, rel, told, go⟩ => ?_)
  obtain ⟨text, rfl⟩ := told
  obtain ⟨tok, rfl⟩ := _root_.id rel
  exact ⟨"str", _, PySem.F.plainAttrs_str, PySem.F.slot_str_split, PySem.F.type_str_split, typeIs_str _ _ _, (fun _ z => nomatch z), Calls.callWith_builtin rfl (PySem.evalArgs_none (mt_words pins s1 σ H1 _ [] _ [] Q I1 rel .nil go))⟩
/-- name = e, e wants a token -/
theorem pst_set {i : Nat} {x : Str} {pos pos' : Pos} (hN : X.N.Nodup) (hi : X.N[i]? = some x) (hx : Loc X.env.scope x) (he : PET X e te) (hs : swapsWith e (some (.Name x pos')) pos.line X.env = pure false := by rfl)
    (hf : X.fn x = true ∨ X.env.scope.names.lookup x = some .local := by first | exact .inl rfl | exact .inr rfl | assumption) : PST X (.Assign [.Name x pos'] e pos) (tAsg te (gName i)) := by
  intro pins s σ H D tk I h
  refine wpAny_Assign_Name (thn (he pins s σ H _ tk I h) fun u s1 ⟨y, H1, I1, rel, go⟩ => store_ok I1 hN hi hx rel (fun s2 I2 => ⟨_, H1, I2, go⟩) hf) hs
end
def spTermOr : Sp := fun vs H Q _ => ∃ t : Tm, vs = [.str t.txt] ∧ t.small ∧ t.size ≤ 200 ∧ ∀ (v : V) (H' : Hp), TmAt H' v t → Same H H' → Q v H'
section
variable {P : Program} {w : World} {K : PySem.W.Frag} {mg : Str → Option Value} {base : Heap}
theorem scTermOr : FnScope ["text", "signs", "term"] ["text"] (defScope sTermOrNone) := ⟨rfl, rfl, rfl, by decide +kernel, rfl, by decide +kernel, by decide +kernel⟩
theorem ok_termor {f fS fT : Addr} {fd dS dT : FuncData} {tk : Tok} (F : Fun K "term_or_none" "term_or_none" sTermOrNone f fd)
    (GS : FnOk P w K mg base CX0 2 fS dS ["signs"] spFromSigns) (kS : PySem.W.keepIn K (.ref fS) = true) (bS : Binds K dS ["signs"] []) (mS : mg "_from_signs" = some (.ref fS))
    (GT : FnOk P w K mg base CX0 4 fT dT ["term"] spTermText) (kT : PySem.W.keepIn K (.ref fT) = true) (bT : Binds K dT ["term"] []) (mT : mg "term_text" = some (.ref fT))
    (mLen : mg "len" = none) (mMost : mg "MOST_SIGNS" = some (.int 200 tk)) : FnOk P w K mg base CX0 5 f fd ["text"] spTermOr := by
  obtain ⟨oc, od, kV, doc, pm, an, cdv, ct, osl, rfl, lk, hcd⟩ := F.ex
  refine fn_ofT lk hcd scTermOr (by decide +kernel) (by decide) (fun vs H Q E h => ?_) (fun A outer s H vs Q E hr h => ?_)
  · obtain ⟨t, rfl, _⟩ := h
    rfl
  obtain ⟨t, rfl, sm, sz, q⟩ := h
  have r2 : Room 2 _ := hr.mono (by decide)
  refine ⟨_, psst_cons (pst_set (i := 1) scTermOr.nd rfl (Or.inl rfl) (pet_words (pet_replT (pet_replT (pet_replC (pv 0))))))
    (PSsT.of (pss_cons (ps_set (i := 2) scTermOr.nd rfl (Or.inl rfl) (pe_ifExp (pt_cmpR op_le (pe_callB call_len_seq (by rfl) mLen PySem.boot_len (pa_cons (pv 1) pa_nil)) (pe_glob (v := .int 200) rfl mMost ⟨_, rfl⟩) (nomark _)) (pe_call GS r2 rfl mS kS bS .nil pass0 (pa_cons (pv 1) pa_nil)) pe_non))
    (pss_cons (ps_if (PW.pt (pw_or (pt_cmpR op_isN (pv 2) pe_non (nomark _)) (pw_or1 (pt_cmpR op_ne (pe_call GT hr rfl mT kT bT .nil pass0 (pa_cons (pv 2) pa_nil)) (pv 0) (nomark _))))) (pss_one (ps_ret pe_non)) pss_nil)
    (pss_one (ps_ret (pv 2)))))), ?_⟩
  have tl_ := txt_len t sm
  have big : (10000 : Nat) ≤ sizeLine := by decide
  have l1 : (" " : Str).length = 1 := by decide +kernel
  have e32 : (" " : Str) = ⟨#[32]⟩ := by decide +kernel
  have e40 : ("(" : Str) = ⟨#[40]⟩ := by decide +kernel
  have e41 : (")" : Str) = ⟨#[41]⟩ := by decide +kernel
  have rl1 : ∀ x : Str, (Txt.replace x "(" " ").length = x.length := fun x => by rw [e32, e40, len_tl, len_tl, repl_tl _ (by decide), List.length_map]
  have rl2 : ∀ x : Str, (Txt.replace x ")" " ").length = x.length := fun x => by rw [e32, e41, len_tl, len_tl, repl_tl _ (by decide), List.length_map]
  refine ⟨_, rfl, t.txt, rfl, by rw [l1]; omega, _, rfl, by rw [l1, rl1]; omega, _, rfl, by rw [l1, rl2, rl1]; omega, ⟨_, rfl⟩, _, rfl, rfl, ?_, fun p hp => ?_⟩
  · show (blanked t.txt).length + 2 ≤ _
    rw [blanked_len]; omega
  have ew : Txt.words (Txt.replace (Txt.replace (Txt.replace t.txt "(" " ") ")" " ") "," " ") = t.sgn := words_txt t sm
  rw [ew]
  have s1 := same_new hp (.lst (t.sgn.map V.str))
  refine ⟨_, rfl, p, _, rfl, .inl (.inl (.inl upd_same)), _, _, rfl, rfl, true, congrArg V.bl (decide_eq_true (by rw [List.length_map, Tm.sgn_len]; omega)), iteT ?_⟩
  refine ⟨_, rfl, p, t, rfl, upd_same, sm, by omega, fun v H2 T s2 => ?_⟩
  have vn : v ≠ .non := by cases T <;> (intro z; cases z)
  refine ⟨_, rfl, rfl, false, congrArg V.bl (decide_eq_false vn), iteF ?_⟩
  refine ⟨_, rfl, v, t, rfl, T, sm, by omega, fun H3 s3 => ⟨_, rfl, rfl, false, congrArg (fun z => V.bl (!z)) (decide_eq_true rfl), iteF ?_⟩⟩
  exact ⟨_, rfl, q v H3 (T.same s3) (s1.trans (s2.trans s3))⟩
end
end Rp

/-! Data of any depth: what stands as which, and which data are TERMs. -/
namespace Rp
open PySem L2
mutual
/-- the value v stands as the data d; its lists are others than the box b -/
def DAt (H : Hp) (b : Addr) : V → PyData → Prop
  | v, .none => v = .non
  | v, .bool c => v = .bl c
  | v, .int i => v = .int i
  | v, .str x => v = .str x
  | v, .list ds => ∃ (a : Addr) (xs : List V), v = .ref a ∧ a ≠ b ∧ H a = some (.lst xs) ∧ DAtAll H b xs ds
  | v, .tuple ds => ∃ (a : Addr) (xs : List V), v = .ref a ∧ H a = some (.tup xs) ∧ DAtAll H b xs ds
  | _, .dict _ => False
def DAtAll (H : Hp) (b : Addr) : List V → List PyData → Prop
  | xs, [] => xs = []
  | xs, d :: ds => ∃ (x : V) (r : List V), xs = x :: r ∧ DAt H b x d ∧ DAtAll H b r ds
end
mutual
theorem DAt.dp {K : PySem.W.Frag} {H : Hp} {b : Addr} : ∀ (d : PyData) {v : V}, DAt H b v d → Dp K H v d
  | .none, _, h => by unfold DAt at h; subst h; exact .non
  | .bool _, _, h => by unfold DAt at h; subst h; exact .bl _
  | .int _, _, h => by unfold DAt at h; subst h; exact .int _
  | .str _, _, h => by unfold DAt at h; subst h; exact .str _
  | .list ds, _, h => by
    unfold DAt at h
    obtain ⟨a, xs, rfl, _, e, q⟩ := h
    exact .lst (.inl (.inl e)) (DAtAll.dp ds q)
  | .tuple ds, _, h => by
    unfold DAt at h
    obtain ⟨a, xs, rfl, e, q⟩ := h
    exact .tup (.inl (.inl e)) (DAtAll.dp ds q)
  | .dict _, _, h => by unfold DAt at h; exact h.elim
theorem DAtAll.dp {K : PySem.W.Frag} {H : Hp} {b : Addr} : ∀ (ds : List PyData) {xs : List V}, DAtAll H b xs ds → DpAll K H xs ds
  | [], _, h => by unfold DAtAll at h; subst h; exact .nil
  | d :: ds, _, h => by
    unfold DAtAll at h
    obtain ⟨x, r, rfl, q, q'⟩ := h
    exact .cons (DAt.dp d q) (DAtAll.dp ds q')
end
mutual
theorem DAt.mono {H H' : Hp} {b : Addr} (et : ∀ a xs, H a = some (.tup xs) → H' a = some (.tup xs)) (el : ∀ a xs, a ≠ b → H a = some (.lst xs) → H' a = some (.lst xs)) : ∀ (d : PyData) {v : V}, DAt H b v d → DAt H' b v d
  | .none, _, h => by unfold DAt at h ⊢; exact h
  | .bool _, _, h => by unfold DAt at h ⊢; exact h
  | .int _, _, h => by unfold DAt at h ⊢; exact h
  | .str _, _, h => by unfold DAt at h ⊢; exact h
  | .list ds, _, h => by
    unfold DAt at h ⊢
    obtain ⟨a, xs, e, n, q, q'⟩ := h
    exact ⟨a, xs, e, n, el _ _ n q, DAtAll.mono et el ds q'⟩
  | .tuple ds, _, h => by
    unfold DAt at h ⊢
    obtain ⟨a, xs, e, q, q'⟩ := h
    exact ⟨a, xs, e, et _ _ q, DAtAll.mono et el ds q'⟩
  | .dict _, _, h => by unfold DAt at h; exact h.elim
theorem DAtAll.mono {H H' : Hp} {b : Addr} (et : ∀ a xs, H a = some (.tup xs) → H' a = some (.tup xs)) (el : ∀ a xs, a ≠ b → H a = some (.lst xs) → H' a = some (.lst xs)) : ∀ (ds : List PyData) {xs : List V}, DAtAll H b xs ds → DAtAll H' b xs ds
  | [], _, h => by unfold DAtAll at h ⊢; exact h
  | d :: ds, _, h => by
    unfold DAtAll at h ⊢
    obtain ⟨x, r, e, q, q'⟩ := h
    exact ⟨x, r, e, DAt.mono et el d q, DAtAll.mono et el ds q'⟩
end
theorem DAt.same {H H' : Hp} {b : Addr} (e : Same H H') {d : PyData} {v : V} (h : DAt H b v d) : DAt H' b v d := DAt.mono (fun a _ q => e a _ q) (fun a _ _ q => e a _ q) d h
theorem DAt.but {H H' : Hp} {b : Addr} {ys : List V} (e : But b H H') (hb : H b = some (.lst ys)) {d : PyData} {v : V} (h : DAt H b v d) : DAt H' b v d :=
  DAt.mono (fun a _ q => e a _ q (ne_of q hb (by intro z; cases z))) (fun a _ n q => e a _ q n) d h
theorem DAtAll.same {H H' : Hp} {b : Addr} (e : Same H H') {ds : List PyData} {xs : List V} (h : DAtAll H b xs ds) : DAtAll H' b xs ds := DAtAll.mono (fun a _ q => e a _ q) (fun a _ _ q => e a _ q) ds h
theorem DAtAll.but {H H' : Hp} {b : Addr} {ys : List V} (e : But b H H') (hb : H b = some (.lst ys)) {ds : List PyData} {xs : List V} (h : DAtAll H b xs ds) : DAtAll H' b xs ds :=
  DAtAll.mono (fun a _ q => e a _ q (ne_of q hb (by intro z; cases z))) (fun a _ n q => e a _ q n) ds h
theorem DAtAll.nil {H : Hp} {b : Addr} : DAtAll H b [] [] := by unfold DAtAll; rfl
theorem DAtAll.cons {H : Hp} {b : Addr} {x : V} {xs : List V} {d : PyData} {ds : List PyData} (h : DAt H b x d) (h' : DAtAll H b xs ds) : DAtAll H b (x :: xs) (d :: ds) := by unfold DAtAll; exact ⟨x, xs, rfl, h, h'⟩
theorem DAtAll.head {H : Hp} {b : Addr} {x : V} {xs : List V} {ds : List PyData} (h : DAtAll H b (x :: xs) ds) : ∃ d ds', ds = d :: ds' ∧ DAt H b x d ∧ DAtAll H b xs ds' := by
  cases ds with
  | nil => unfold DAtAll at h; cases h
  | cons d ds =>
    unfold DAtAll at h
    obtain ⟨y, r, e, q, q'⟩ := h
    cases e
    exact ⟨d, ds, rfl, q, q'⟩
theorem DAtAll.len {H : Hp} {b : Addr} : ∀ {xs : List V} {ds : List PyData}, DAtAll H b xs ds → xs.length = ds.length
  | xs, [], h => by unfold DAtAll at h; subst h; rfl
  | xs, d :: ds, h => by
    unfold DAtAll at h
    obtain ⟨x, r, rfl, _, q⟩ := h
    rw [List.length_cons, List.length_cons, DAtAll.len q]
theorem DAtAll.append {H : Hp} {b : Addr} : ∀ {xs ys : List V} {ds es : List PyData}, DAtAll H b xs ds → DAtAll H b ys es → DAtAll H b (xs ++ ys) (ds ++ es)
  | xs, ys, [], es, h, h' => by unfold DAtAll at h; subst h; exact h'
  | xs, ys, d :: ds, es, h, h' => by
    unfold DAtAll at h
    obtain ⟨x, r, rfl, q, q'⟩ := h
    exact .cons q (DAtAll.append q' h')
theorem DAtAll.parted {H : Hp} {b : Addr} : ∀ {xs ys : List V} {ds : List PyData}, DAtAll H b (xs ++ ys) ds → ∃ d1 d2, ds = d1 ++ d2 ∧ DAtAll H b xs d1 ∧ DAtAll H b ys d2
  | [], ys, ds, h => ⟨[], ds, rfl, .nil, h⟩
  | x :: xs, ys, ds, h => by
    obtain ⟨d, ds', rfl, q, q'⟩ := DAtAll.head h
    obtain ⟨d1, d2, rfl, h1, h2⟩ := DAtAll.parted q'
    exact ⟨d :: d1, d2, rfl, .cons q h1, h2⟩
theorem DAtAll.take {H : Hp} {b : Addr} : ∀ {xs : List V} {ds : List PyData} (n : Nat), DAtAll H b xs ds → DAtAll H b (xs.take n) (ds.take n)
  | xs, ds, 0, h => by simp; exact .nil
  | [], ds, n + 1, h => by have := h.len; cases ds with | nil => simpa using DAtAll.nil | cons => simp at this
  | x :: xs, ds, n + 1, h => by
    obtain ⟨d, ds', rfl, q, q'⟩ := DAtAll.head h
    exact .cons q (DAtAll.take n q')
theorem DAtAll.drop {H : Hp} {b : Addr} : ∀ {xs : List V} {ds : List PyData} (n : Nat), DAtAll H b xs ds → DAtAll H b (xs.drop n) (ds.drop n)
  | xs, ds, 0, h => by simpa using h
  | [], ds, n + 1, h => by have := h.len; cases ds with | nil => simpa using DAtAll.nil | cons => simp at this
  | x :: xs, ds, n + 1, h => by
    obtain ⟨d, ds', rfl, q, q'⟩ := DAtAll.head h
    simpa using DAtAll.drop n q'
theorem DAtAll.back {H : Hp} {b : Addr} : ∀ {xs : List V} {ds : List PyData}, DAtAll H b xs ds → DAtAll H b xs.reverse ds.reverse
  | [], ds, h => by have := h.len; cases ds with | nil => simpa using DAtAll.nil | cons => simp at this
  | x :: xs, ds, h => by
    obtain ⟨d, ds', rfl, q, q'⟩ := DAtAll.head h
    rw [List.reverse_cons, List.reverse_cons]
    exact (DAtAll.back q').append (.cons q .nil)
theorem DAtAll.get {H : Hp} {b : Addr} : ∀ {xs : List V} {ds : List PyData} {i : Nat} {x : V}, DAtAll H b xs ds → xs[i]? = some x → ∃ d, ds[i]? = some d ∧ DAt H b x d
  | [], ds, i, x, h, e => by simp at e
  | y :: xs, ds, 0, x, h, e => by
    obtain ⟨d, ds', rfl, q, q'⟩ := DAtAll.head h
    simp at e
    subst e
    exact ⟨d, rfl, q⟩
  | y :: xs, ds, i + 1, x, h, e => by
    obtain ⟨d, ds', rfl, q, q'⟩ := DAtAll.head h
    simpa using DAtAll.get q' (by simpa using e)
/-! ### TERMs as data -/
def tmD : Tm → PyData
  | .v n => .int n
  | .z => .tuple [.str "0"]
  | .s t => .tuple [.str "s", tmD t]
  | .f l r => .tuple [.str "f", tmD l, tmD r]
theorem TmAt.dat {H : Hp} {b : Addr} {v : V} {t : Tm} (h : TmAt H v t) : DAt H b v (tmD t) := by
  induction h with
  | v n => unfold tmD DAt; rfl
  | z h => unfold tmD DAt; exact ⟨_, _, rfl, h, .cons (by unfold DAt; rfl) .nil⟩
  | s h _ ih => unfold tmD DAt; exact ⟨_, _, rfl, h, .cons (by unfold DAt; rfl) (.cons ih .nil)⟩
  | f h _ _ ih ih' => unfold tmD DAt; exact ⟨_, _, rfl, h, .cons (by unfold DAt; rfl) (.cons ih (.cons ih' .nil))⟩
theorem DAtAll.nil_of {H : Hp} {b : Addr} {xs : List V} (h : DAtAll H b xs []) : xs = [] := by unfold DAtAll at h; exact h
theorem DAtAll.cons_of {H : Hp} {b : Addr} {xs : List V} {d : PyData} {ds : List PyData} (h : DAtAll H b xs (d :: ds)) : ∃ x r, xs = x :: r ∧ DAt H b x d ∧ DAtAll H b r ds := by unfold DAtAll at h; exact h
theorem DAt.str_of {H : Hp} {b : Addr} {v : V} {x : Str} (h : DAt H b v (.str x)) : v = .str x := by unfold DAt at h; exact h
theorem DAt.int_of {H : Hp} {b : Addr} {v : V} {x : Int} (h : DAt H b v (.int x)) : v = .int x := by unfold DAt at h; exact h
theorem DAt.tup_of {H : Hp} {b : Addr} {v : V} {ds : List PyData} (h : DAt H b v (.tuple ds)) : ∃ (a : Addr) (xs : List V), v = .ref a ∧ H a = some (.tup xs) ∧ DAtAll H b xs ds := by unfold DAt at h; exact h
theorem DAt.lst_of {H : Hp} {b : Addr} {v : V} {ds : List PyData} (h : DAt H b v (.list ds)) : ∃ (a : Addr) (xs : List V), v = .ref a ∧ a ≠ b ∧ H a = some (.lst xs) ∧ DAtAll H b xs ds := by unfold DAt at h; exact h
theorem DAt.tm {H : Hp} {b : Addr} : ∀ (t : Tm) {v : V}, DAt H b v (tmD t) → TmAt H v t
  | .v n, _, h => by rw [DAt.int_of h]; exact .v n
  | .z, _, h => by
    obtain ⟨a, xs, rfl, e, q⟩ := DAt.tup_of h
    obtain ⟨x, r, rfl, q1, q2⟩ := q.cons_of
    cases q1.str_of
    cases q2.nil_of
    exact .z e
  | .s t, _, h => by
    obtain ⟨a, xs, rfl, e, q⟩ := DAt.tup_of h
    obtain ⟨x, r, rfl, q1, q2⟩ := q.cons_of
    obtain ⟨y, r', rfl, q3, q4⟩ := q2.cons_of
    cases q1.str_of
    cases q4.nil_of
    exact .s e (DAt.tm t q3)
  | .f l r, _, h => by
    obtain ⟨a, xs, rfl, e, q⟩ := DAt.tup_of h
    obtain ⟨x, r1, rfl, q1, q2⟩ := q.cons_of
    obtain ⟨y, r2, rfl, q3, q4⟩ := q2.cons_of
    obtain ⟨y', r3, rfl, q5, q6⟩ := q4.cons_of
    cases q1.str_of
    cases q6.nil_of
    exact .f e (DAt.tm l q3) (DAt.tm r q5)
def IsT (d : PyData) : Prop := ∃ t, d = tmD t ∧ ∀ n ∈ t.nums, 0 ≤ n ∧ n ≤ 99
/-- a sign with as many parts as it takes -/
def Shaped (d : PyData) : Prop := ∃ (x : Str) (ds : List PyData), d = .tuple (.str x :: ds) ∧ ((x = "0" ∧ ds.length = 0) ∨ (x = "s" ∧ ds.length = 1) ∨ (x = "f" ∧ ds.length = 2))
theorem isT_shaped {x : Str} {ds : List PyData} (h : (x = "0" ∧ ds.length = 0) ∨ (x = "s" ∧ ds.length = 1) ∨ (x = "f" ∧ ds.length = 2)) : IsT (.tuple (.str x :: ds)) ↔ ∀ d ∈ ds, IsT d := by
  have s0 : ("0" : Str) ≠ "s" := by decide +kernel
  have s1 : ("0" : Str) ≠ "f" := by decide +kernel
  have s2 : ("s" : Str) ≠ "f" := by decide +kernel
  rcases h with ⟨rfl, h⟩ | ⟨rfl, h⟩ | ⟨rfl, h⟩
  · match ds, h with
    | [], _ => exact ⟨fun _ d hd => by simp at hd, fun _ => ⟨.z, rfl, fun n hn => by simp [Tm.nums] at hn⟩⟩
  · match ds, h with
    | [d], _ =>
      constructor
      · rintro ⟨t, e, g⟩ d' hd
        simp at hd
        subst hd
        cases t with
        | s t => unfold tmD at e; injection e with e; injection e with _ e; injection e with e _; exact ⟨t, e, g⟩
        | v n => cases e
        | z => unfold tmD at e; injection e with e; injection e with e _; injection e with e; exact absurd e.symm s0
        | f l r => unfold tmD at e; injection e with e; injection e with e _; injection e with e; exact absurd e s2
      · intro h
        obtain ⟨t, rfl, g⟩ := h d (by simp)
        exact ⟨.s t, rfl, g⟩
  · match ds, h with
    | [d, d'], _ =>
      constructor
      · rintro ⟨t, e, g⟩ d2 hd
        cases t with
        | f l r =>
          unfold tmD at e
          injection e with e
          injection e with _ e
          injection e with e1 e
          injection e with e2 _
          simp at hd
          rcases hd with rfl | rfl
          · exact ⟨l, e1, fun n hn => g n (by simp [Tm.nums, hn])⟩
          · exact ⟨r, e2, fun n hn => g n (by simp [Tm.nums, hn])⟩
        | v n => cases e
        | z => unfold tmD at e; injection e with e; injection e with e _; injection e with e; exact absurd e.symm s1
        | s t => unfold tmD at e; injection e with e; injection e with e _; injection e with e; exact absurd e.symm s2
      · intro h
        obtain ⟨l, rfl, g1⟩ := h d (by simp)
        obtain ⟨r, rfl, g2⟩ := h d' (by simp)
        refine ⟨.f l r, rfl, fun n hn => ?_⟩
        rcases List.mem_append.mp hn with q | q
        · exact g1 n q
        · exact g2 n q
theorem isT_int {n : Int} : IsT (.int n) ↔ 0 ≤ n ∧ n ≤ 99 := by
  constructor
  · rintro ⟨t, e, g⟩
    cases t with
    | v m => unfold tmD at e; injection e with e; subst e; exact g _ (by simp [Tm.nums])
    | z => cases e
    | s t => cases e
    | f l r => cases e
  · intro h
    exact ⟨.v n, rfl, fun m hm => by simp [Tm.nums] at hm; subst hm; exact h⟩
theorem isT_other {d : PyData} (h : ¬ Shaped d) (h' : ∀ n, d ≠ .int n) : ¬ IsT d := by
  rintro ⟨t, rfl, g⟩
  cases t with
  | v n => exact h' n rfl
  | z => exact h ⟨"0", [], rfl, .inl ⟨rfl, rfl⟩⟩
  | s t => exact h ⟨"s", [_], rfl, .inr (.inl ⟨rfl, rfl⟩)⟩
  | f l r => exact h ⟨"f", [_, _], rfl, .inr (.inr ⟨rfl, rfl⟩)⟩
end Rp

namespace Rp
open PySem PySem.Spec PyProof.Rows L2
def tyD : PyData → String
  | .none => "NoneType" | .bool _ => "bool" | .int _ => "int" | .str _ => "str" | .list _ => "list" | .tuple _ => "tuple" | .dict _ => "dict"
theorem DAt.tyx {K : PySem.W.Frag} {H : Hp} {b : Addr} {v : V} {d : PyData} (h : DAt H b v d) : TyX K H v (.type (tyD d)) := by
  cases d with
  | none => unfold DAt at h; subst h; exact .base .non
  | bool c => unfold DAt at h; subst h; exact .base (.bl c)
  | int i => unfold DAt at h; subst h; exact .base (.int i)
  | str x => unfold DAt at h; subst h; exact .base (.str x)
  | list ds => obtain ⟨a, xs, rfl, _, e, _⟩ := h.lst_of; exact .base (.lst e)
  | tuple ds => obtain ⟨a, xs, rfl, e, _⟩ := h.tup_of; exact .base (.tup e)
  | dict ds => unfold DAt at h; exact h.elim
def isI : PyData → Bool | .int _ => true | .bool _ => true | _ => false
def isB : PyData → Bool | .bool _ => true | _ => false
def isS : PyData → Bool | .str _ => true | _ => false
def isU : PyData → Bool | .tuple _ => true | _ => false
def isL : PyData → Bool | .list _ => true | _ => false
def isNum : PyData → Bool | .int _ => true | _ => false
section
variable {K : PySem.W.Frag}
theorem kitI (d : PyData) : PySem.W.kitOne K (.type (tyD d)) (.type "int") = some (isI d) := by cases d <;> exact kit_ty (by simp only [tyD, isI]; decide +kernel)
theorem kitB' (d : PyData) : PySem.W.kitOne K (.type (tyD d)) (.type "bool") = some (isB d) := by cases d <;> exact kit_ty (by simp only [tyD, isB]; decide +kernel)
theorem kitS (d : PyData) : PySem.W.kitOne K (.type (tyD d)) (.type "str") = some (isS d) := by cases d <;> exact kit_ty (by simp only [tyD, isS]; decide +kernel)
theorem kitU (d : PyData) : PySem.W.kitOne K (.type (tyD d)) (.type "tuple") = some (isU d) := by cases d <;> exact kit_ty (by simp only [tyD, isU]; decide +kernel)
theorem kitL (d : PyData) : PySem.W.kitOne K (.type (tyD d)) (.type "list") = some (isL d) := by cases d <;> exact kit_ty (by simp only [tyD, isL]; decide +kernel)
end
def okD (d : PyData) : Prop := d.canLay0 = true ∧ d.depth ≤ 60
theorem okAll {ds : List PyData} (h : PyData.canLayAll0 ds = true) (k : Nat) (hk : PyData.depthAll ds ≤ k) : ∀ d ∈ ds, d.canLay0 = true ∧ d.depth ≤ k := by
  induction ds with
  | nil => intro d hd; simp at hd
  | cons x ds ih =>
    simp only [PyData.canLayAll0, Bool.and_eq_true] at h
    simp only [PyData.depthAll] at hk
    intro d hd
    rcases List.mem_cons.mp hd with rfl | hd
    · exact ⟨h.1, by omega⟩
    · exact ih h.2 (by omega) d hd
theorem okD.tup {ds : List PyData} (h : okD (.tuple ds)) : ∀ d ∈ ds, okD d := fun d hd => by
  have h1 : PyData.canLayAll0 ds = true := by have := h.1; simpa [PyData.canLay0] using this
  have h2 : PyData.depthAll ds + 1 ≤ 60 := by have := h.2; simpa [PyData.depth] using this
  have := okAll h1 59 (by omega) d hd
  exact ⟨this.1, by omega⟩
theorem eqv_str {x : Str} {d : PyData} : PyData.eqv (.str x) d = true ↔ d = .str x := by
  cases d <;> simp [PyData.eqv]
  exact eq_comm
theorem eqv_tup {xs ys : List PyData} : PyData.eqv (.tuple xs) (.tuple ys) = PyData.eqvAll xs ys := by simp only [PyData.eqv]
theorem eqv_int {i j : Int} : PyData.eqv (.int i) (.int j) = (i == j) := by simp only [PyData.eqv]
theorem eqvAll_cons {x y : PyData} {xs ys : List PyData} : PyData.eqvAll (x :: xs) (y :: ys) = (PyData.eqv x y && PyData.eqvAll xs ys) := by simp only [PyData.eqvAll]
theorem eqvAll_nil : PyData.eqvAll [] [] = true := by simp only [PyData.eqvAll]
theorem hu65 {A : Around} {k : Nat} (hr : Room k A) : A.units + 65 < cLine := by have := hr.un; omega
def shapesD : PyData := .tuple [.tuple [.str "0", .int 1], .tuple [.str "s", .int 2], .tuple [.str "f", .int 3]]
def shapesL : List PyData := [.tuple [.str "0", .int 1], .tuple [.str "s", .int 2], .tuple [.str "f", .int 3]]
theorem shapes_any {d0 : PyData} {ds : List PyData} : (shapesL.any fun y => PyData.eqv y (.tuple [d0, .int ((ds.length + 1 : Nat) : Int)])) = true ↔ Shaped (.tuple (d0 :: ds)) := by
  have one : ∀ (x : Str) (n : Int), PyData.eqv (.tuple [.str x, .int n]) (.tuple [d0, .int ((ds.length + 1 : Nat) : Int)]) = true ↔ d0 = .str x ∧ n = ((ds.length + 1 : Nat) : Int) := by
    intro x n
    rw [eqv_tup, eqvAll_cons, eqvAll_cons, eqvAll_nil, eqv_int]
    simp only [Bool.and_true, Bool.and_eq_true, eqv_str, beq_iff_eq]
  simp only [shapesL, List.any_cons, List.any_nil, Bool.or_false, Bool.or_eq_true, one]
  constructor
  · rintro (⟨rfl, e⟩ | ⟨rfl, e⟩ | ⟨rfl, e⟩)
    · exact ⟨"0", ds, rfl, .inl ⟨rfl, by omega⟩⟩
    · exact ⟨"s", ds, rfl, .inr (.inl ⟨rfl, by omega⟩)⟩
    · exact ⟨"f", ds, rfl, .inr (.inr ⟨rfl, by omega⟩)⟩
  · rintro ⟨x, ds', e, h⟩
    injection e with e
    injection e with e1 e2
    subst e1 e2
    rcases h with ⟨rfl, h⟩ | ⟨rfl, h⟩ | ⟨rfl, h⟩
    · exact .inl ⟨rfl, by omega⟩
    · exact .inr (.inl ⟨rfl, by omega⟩)
    · exact .inr (.inr ⟨rfl, by omega⟩)
/-- x in t, t a tuple of data of any depth -/
def rInT (K : PySem.W.Frag) : R2 := fun x y H Q => ∃ (d : PyData) (ds : List PyData), Dp K H x d ∧ Dp K H y (.tuple ds) ∧ SeqAt.shaped d = true ∧ SeqAt.shaped (.tuple ds) = true ∧ Q (.bl (ds.any fun y => PyData.eqv y d)) H
section
variable {X : Cx}
theorem op_inT (hu : X.A.units + 65 < cLine) : OpR X (compareOp .In) (rInT X.K) := by
  intro pins s σ H x y v u Q I rx ry h
  obtain ⟨d, ds, hd, he, sd, se, q⟩ := h
  obtain ⟨as, r1⟩ := Dp.reads I d x v hd rx
  obtain ⟨bs, r2⟩ := Dp.reads I (.tuple ds) y u he ry
  exact SeqAt.in_tuple_reads r2 r1 (SeqAt.canLay_of_shaped se) (SeqAt.canLay_of_shaped sd) (room_in_shaped sd hu) ⟨.bl _, H, I, rfl, q⟩
end
theorem shaped_of {d : PyData} (h : d.canLay0 = true) (h' : d.depth ≤ 64) : SeqAt.shaped d = true := by
  show (d.canLay0 && decide (d.depth ≤ 64)) = true
  rw [h, decide_eq_true h']
  rfl
def spNumber : Sp := fun vs H Q _ => ∃ (b : Addr) (v : V) (d : PyData), vs = [v] ∧ DAt H b v d ∧ Q (.bl (isNum d)) H
def isVar : PyData → Bool | .int n => decide (0 ≤ n) && decide (n ≤ 99) | _ => false
def spVariable : Sp := fun vs H Q _ => ∃ (b : Addr) (v : V) (d : PyData), vs = [v] ∧ DAt H b v d ∧ Q (.bl (isVar d)) H
def spShape : Sp := fun vs H Q _ => ∃ (b : Addr) (v : V) (d : PyData), vs = [v] ∧ DAt H b v d ∧ okD d ∧ ∀ (r : Bool) (H' : Hp), (r = true ↔ Shaped d) → Same H H' → Q (.bl r) H'
section
variable {P : Program} {w : World} {K : PySem.W.Frag} {mg : Str → Option Value} {base : Heap}
theorem scNumber : FnScope ["thing"] ["thing"] (defScope sNumber) := ⟨rfl, rfl, rfl, by decide +kernel, rfl, by decide +kernel, by decide +kernel⟩
theorem ok_number {f : Addr} {fd : FuncData} (F : Fun K "is_number" "is_number" sNumber f fd) (M : SameG mg) : FnOk P w K mg base CX0 1 f fd ["thing"] spNumber := by
  refine F.ok scNumber (fun vs H Q E h => ?_) (fun cdv A outer s H vs Q E hr h => ?_)
  · obtain ⟨b, v, d, rfl, _⟩ := h
    rfl
  obtain ⟨b, v, d, rfl, D, q⟩ := h
  refine ⟨_, pss_one (ps_ret (pe_and (pe_callB (id := "isinstance") call_isi (by rfl) M.isi (by decide +kernel) (pa_cons (pv 0) (pa_cons (pe_bltn (v := .ty "int") (by rfl) M.int (by decide +kernel) rfl) pa_nil)))
    (pe_one (pe_not (pe_callB (id := "isinstance") call_isi (by rfl) M.isi (by decide +kernel) (pa_cons (pv 0) (pa_cons (pe_bltn (v := .ty "bool") (by rfl) M.bool (by decide +kernel) rfl) pa_nil))))))), ?_⟩
  refine ⟨_, rfl, _, _, _, _, isI d, rfl, .ty "int", D.tyx, kitI d, isI d, rfl, ?_⟩
  have second : (fun (σ : L2.St) => isI d = true → isB d = !(isNum d)) [] := by cases d <;> simp [isI, isB, isNum]
  have first : isI d = false → isNum d = false := by cases d <;> simp [isI, isNum]
  cases e : isI d with
  | false => exact iteF (by have z := first e; rw [z] at q; exact q)
  | true =>
    refine iteT ⟨_, rfl, _, _, _, _, isB d, rfl, .ty "bool", D.tyx, kitB' d, isB d, rfl, ?_⟩
    have z := second e
    rw [z]
    simpa using q
theorem scVariable : FnScope ["thing"] ["thing"] (defScope sVariable) := ⟨rfl, rfl, rfl, by decide +kernel, rfl, by decide +kernel, by decide +kernel⟩
theorem ok_variable {f fN : Addr} {fd fdN : FuncData} {tk : Tok} (F : Fun K "is_variable" "is_variable" sVariable f fd) (GN : FnOk P w K mg base CX0 1 fN fdN ["thing"] spNumber) (kN : PySem.W.keepIn K (.ref fN) = true) (bN : Binds K fdN ["thing"] []) (mN : mg "is_number" = some (.ref fN))
    (mLast : mg "LAST_VARIABLE" = some (.int 99 tk)) : FnOk P w K mg base CX0 2 f fd ["thing"] spVariable := by
  refine F.ok scVariable (fun vs H Q E h => ?_) (fun cdv A outer s H vs Q E hr h => ?_)
  · obtain ⟨b, v, d, rfl, _⟩ := h
    rfl
  obtain ⟨b, v, d, rfl, D, q⟩ := h
  refine ⟨_, pss_one (ps_ret (pe_and (pe_call GN hr rfl mN kN bN .nil pass0 (pa_cons (pv 0) pa_nil)) (pe_one (pe_chain op_le op_le pe_int (pv 0) (pe_glob (v := .int 99) rfl mLast ⟨_, rfl⟩))))), ?_⟩
  refine ⟨_, rfl, b, v, d, rfl, D, isNum d, rfl, ?_⟩
  cases d with
  | int n =>
    have ev := D.int_of
    subst ev
    refine iteT ⟨_, rfl, _, _, rfl, rfl, decide (0 ≤ n), rfl, ?_⟩
    cases e : decide (0 ≤ n) with
    | false => exact iteF (by simpa [isVar, e] using q)
    | true => exact iteT ⟨_, _, rfl, rfl, by simpa [isVar, e] using q⟩
  | _ => exact iteF q
theorem scShape : FnScope ["thing"] ["thing"] (defScope sShape) := ⟨rfl, rfl, rfl, by decide +kernel, rfl, by decide +kernel, by decide +kernel⟩
theorem ok_shape {f aS : Addr} {fd : FuncData} (F : Fun K "_has_shape" "_has_shape" sShape f fd) (M : SameG mg) (mS : mg "SHAPES" = some (.ref aS)) (hS : ∀ H, Dp K H (.ref aS) shapesD) : FnOk P w K mg base CX0 1 f fd ["thing"] spShape := by
  refine F.ok scShape (fun vs H Q E h => ?_) (fun cdv A outer s H vs Q E hr h => ?_)
  · obtain ⟨b, v, d, rfl, _⟩ := h
    rfl
  obtain ⟨b, v, d, rfl, D, ok, q⟩ := h
  refine ⟨_, pss_cons (ps_if (PW.pt (pw_or (pt_not (pt_val (pe_callB (id := "isinstance") call_isi (by rfl) M.isi (by decide +kernel) (pa_cons (pv 0) (pa_cons (pe_bltn (v := .ty "tuple") (by rfl) M.tuple (by decide +kernel) rfl) pa_nil)))))
      (pw_or1 (pt_not (pt_truth (pv 0) (by intro _; rfl)))))) (pss_one (ps_ret pe_bl)) pss_nil)
    (pss_one (ps_ret (pe_cmpR (op_inT (hu65 hr)) (pe_tup (pa_cons (pe_ix ix_tup (pv 0) pe_int (fun _ _ => rfl)) (pa_cons (pe_callB call_len_seq (by rfl) M.len PySem.boot_len (pa_cons (pv 0) pa_nil)) pa_nil))) (pe_glob (v := .ref aS) rfl mS rfl) (by rfl)))), ?_⟩
  refine ⟨_, rfl, _, _, _, _, isU d, rfl, .ty "tuple", D.tyx, kitU d, isU d, rfl, ?_⟩
  cases d with
  | tuple ds =>
    obtain ⟨a, xs, rfl, ha, A'⟩ := D.tup_of
    refine iteF ⟨_, rfl, !xs.isEmpty, .inr (.inl ⟨xs, .inl (.inl ha), rfl⟩), ?_⟩
    cases xs with
    | nil =>
      refine iteT (q false H ⟨(fun e => nomatch e), ?_⟩ (Same.refl H))
      rintro ⟨x, ds', e, _⟩
      injection e with e
      subst e
      have := A'.len
      simp at this
    | cons x0 xr =>
      obtain ⟨d0, dr, rfl, D0, Dr⟩ := A'.head
      have el := Dr.len
      refine iteF ⟨_, rfl, a, _, _, _, rfl, rfl, .inl (.inl ha), at_of (j := 0) rfl rfl, _, rfl, a, _, rfl, .inr (.inl (.inl ha)), (by show 2 ≤ sizeLine; decide), fun p hp => ?_⟩
      have s1 := same_new hp (.tup [x0, .int (((x0 :: xr).length : Nat) : Int)])
      have o0 := ok.tup d0 (by simp)
      refine ⟨.tuple [d0, .int ((dr.length + 1 : Nat) : Int)], shapesL, .tup (.inl (.inl upd_same)) (.cons (D0.same s1).dp (.cons ?_ .nil)), hS _, ?_, by decide +kernel, ?_⟩
      · rw [List.length_cons, el]; exact .int _
      · refine shaped_of ?_ ?_
        · simp [PyData.canLay0, PyData.canLayAll0, o0.1]
        · have := o0.2
          simp only [PyData.depth, PyData.depthAll]
          omega
      · exact q _ _ shapes_any s1
  | _ => exact iteT (q false H ⟨(fun e => nomatch e), (fun ⟨x, ds', e, _⟩ => nomatch e)⟩ (Same.refl H))
end
end Rp

/-! Data of small ints and a few short texts: how large they are, what is said of them. -/
namespace Rp
open PySem PySem.Spec PyProof.Rows L2
def okText (x : Str) : Prop := x = "" ∨ x = "0" ∨ x = "s" ∨ x = "f" ∨ x = "x" ∨ x = "g" ∨ x = "x0"
mutual
def fine (U : List Int) : PyData → Prop
  | .none => True | .bool _ => True | .int i => i ∈ U | .str x => okText x | .list ds => fineAll U ds | .tuple ds => fineAll U ds | .dict _ => False
def fineAll (U : List Int) : List PyData → Prop
  | [] => True
  | d :: ds => fine U d ∧ fineAll U ds
end
mutual
def nd : PyData → Nat
  | .list ds => ndAll ds + 1 | .tuple ds => ndAll ds + 1 | _ => 1
def ndAll : List PyData → Nat
  | [] => 0
  | d :: ds => nd d + ndAll ds
end
theorem nd_pos (d : PyData) : 1 ≤ nd d := by cases d <;> simp [nd]
theorem ndAll_append : ∀ a b : List PyData, ndAll (a ++ b) = ndAll a + ndAll b
  | [], b => by simp [ndAll]
  | x :: a, b => by simp only [List.cons_append, ndAll, ndAll_append a b]; omega
theorem ndAll_mem : ∀ {ds : List PyData} {d : PyData}, d ∈ ds → nd d ≤ ndAll ds
  | x :: ds, d, h => by
    simp only [ndAll]
    rcases List.mem_cons.mp h with rfl | h
    · omega
    · have := ndAll_mem h; omega
theorem ndAll_len : ∀ ds : List PyData, ds.length ≤ ndAll ds
  | [] => Nat.le_refl _
  | d :: ds => by have := ndAll_len ds; have := nd_pos d; simp only [ndAll, List.length_cons]; omega
theorem fineAll_iff {U : List Int} : ∀ {ds : List PyData}, fineAll U ds ↔ ∀ d ∈ ds, fine U d
  | [] => by simp [fineAll]
  | d :: ds => by simp only [fineAll, fineAll_iff (ds := ds), List.forall_mem_cons]
theorem depthAll_iff {k : Nat} : ∀ {ds : List PyData}, PyData.depthAll ds ≤ k ↔ ∀ d ∈ ds, d.depth ≤ k
  | [] => by simp [PyData.depthAll]
  | d :: ds => by simp only [PyData.depthAll, List.forall_mem_cons, ← depthAll_iff (ds := ds)]; omega
theorem okText_lay {x : Str} (h : okText x) : PyData.canLay0 (.str x) = true ∧ x.cps.size ≤ 2 := by
  rcases h with rfl | rfl | rfl | rfl | rfl | rfl | rfl <;> exact ⟨by decide +kernel, by decide +kernel⟩
/-- the few ints of a row of data -/
structure Few (U : List Int) : Prop where
  le : ∀ i ∈ U, -1 ≤ i ∧ i ≤ 100
  len : U.length ≤ 200
mutual
theorem fine_lay {U : List Int} (hU : Few U) : ∀ d : PyData, fine U d → d.canLay0 = true ∧ d.showable = true ∧ d.intsShort 13 = true ∧ d.hasDict = false ∧ d.weight + 1 ≤ 110 * nd d
  | .none, _ => ⟨rfl, rfl, rfl, rfl, by decide⟩
  | .bool b, _ => ⟨rfl, rfl, rfl, rfl, by simp [PyData.weight, nd]⟩
  | .int i, h => by
    have h : -1 ≤ i ∧ i ≤ 100 := hU.le i h
    have a : i.natAbs ≤ 100 := by omega
    have b := Nat.log2_le_self i.natAbs
    refine ⟨rfl, ?_, ?_, rfl, ?_⟩
    · simp only [PyData.showable, decide_eq_true_eq]; omega
    · simp only [PyData.intsShort, decide_eq_true_eq]; exact PyData.shown_int_le (by omega)
    · simp only [PyData.weight, nd]; split <;> omega
  | .str x, h => by
    have z := okText_lay h
    refine ⟨z.1, rfl, rfl, rfl, ?_⟩
    simp only [PyData.weight, nd]
    omega
  | .list ds, h => by
    have z := fine_layAll hU ds h
    simp only [PyData.canLay0, PyData.showable, PyData.intsShort, PyData.hasDict, PyData.weight, nd]
    refine ⟨z.1, z.2.1, z.2.2.1, z.2.2.2.1, by omega⟩
  | .tuple ds, h => by
    have z := fine_layAll hU ds h
    simp only [PyData.canLay0, PyData.showable, PyData.intsShort, PyData.hasDict, PyData.weight, nd]
    refine ⟨z.1, z.2.1, z.2.2.1, z.2.2.2.1, by omega⟩
  | .dict _, h => h.elim
theorem fine_layAll {U : List Int} (hU : Few U) : ∀ ds : List PyData, fineAll U ds → PyData.canLayAll0 ds = true ∧ PyData.showableAll ds = true ∧ PyData.intsShortAll 13 ds = true ∧ PyData.hasDictAll ds = false ∧ PyData.weightAll ds ≤ 110 * ndAll ds
  | [], _ => ⟨rfl, rfl, rfl, rfl, by decide⟩
  | d :: ds, h => by
    have h : fine U d ∧ fineAll U ds := h
    have a := fine_lay hU d h.1
    have b := fine_layAll hU ds h.2
    simp only [PyData.canLayAll0, PyData.showableAll, PyData.intsShortAll, PyData.hasDictAll, PyData.weightAll, ndAll, Bool.and_eq_true, Bool.or_eq_false_iff]
    exact ⟨⟨a.1, b.1⟩, ⟨a.2.1, b.2.1⟩, ⟨a.2.2.1, b.2.2.1⟩, ⟨a.2.2.2.1, b.2.2.2.1⟩, by omega⟩
end
/-- fine, of at most n nodes, at most k deep -/
structure Good (U : List Int) (n k : Nat) (d : PyData) : Prop where
  fine : fine U d
  nd : nd d ≤ n
  dp : d.depth ≤ k
theorem Good.more {U : List Int} {n k n' k' : Nat} {d : PyData} (h : Good U n k d) (hn : n ≤ n') (hk : k ≤ k') : Good U n' k' d := ⟨h.fine, by have := h.nd; omega, by have := h.dp; omega⟩
theorem Good.ok {U : List Int} (hU : Few U) {n k : Nat} {d : PyData} (h : Good U n k d) (hk : k ≤ 60) : okD d := ⟨(fine_lay hU d h.fine).1, by have := h.dp; omega⟩
theorem Good.shown {U : List Int} (hU : Few U) {n k : Nat} {d : PyData} (h : Good U n k d) (hn : n ≤ 9000) (hk : k ≤ 60) : d.showable = true ∧ d.hasDict = false ∧ d.depth ≤ 64 ∧ d.shown.length ≤ 15728653 := by
  obtain ⟨h1, h2, h3, h4, h5⟩ := fine_lay hU d h.fine
  have n1 := h.nd
  have k1 := h.dp
  refine ⟨h2, h4, by omega, shown_le13 ?_ h3⟩
  unfold PyData.layable0
  rw [h1, decide_eq_true (by omega : d.depth ≤ 64), decide_eq_true (by omega : d.weight ≤ 2 ^ 20)]
  rfl
theorem Good.tup {U : List Int} {n k : Nat} {ds : List PyData} (h : Good U n k (.tuple ds)) : (∀ d ∈ ds, Rp.fine U d) ∧ ndAll ds + 1 ≤ n ∧ ∀ d ∈ ds, d.depth + 1 ≤ k := by
  refine ⟨fineAll_iff.mp h.fine, by simpa [Rp.nd] using h.nd, fun d hd => ?_⟩
  have k1 : PyData.depthAll ds + 1 ≤ k := by simpa [PyData.depth] using h.dp
  have := depthAll_iff.mp (Nat.le_refl (PyData.depthAll ds)) d hd
  omega
theorem Good.lst {U : List Int} {n k : Nat} {ds : List PyData} (h : Good U n k (.list ds)) : (∀ d ∈ ds, Rp.fine U d) ∧ ndAll ds + 1 ≤ n ∧ ∀ d ∈ ds, d.depth + 1 ≤ k := by
  refine ⟨fineAll_iff.mp h.fine, by simpa [Rp.nd] using h.nd, fun d hd => ?_⟩
  have k1 : PyData.depthAll ds + 1 ≤ k := by simpa [PyData.depth] using h.dp
  have := depthAll_iff.mp (Nat.le_refl (PyData.depthAll ds)) d hd
  omega
theorem good_lst {U : List Int} {n k : Nat} {ds : List PyData} (h : ∀ d ∈ ds, fine U d) (hn : ndAll ds + 1 ≤ n) (hk : ∀ d ∈ ds, d.depth + 1 ≤ k) (k1 : 1 ≤ k) : Good U n k (.list ds) := by
  refine ⟨fineAll_iff.mpr h, by simpa [Rp.nd] using hn, ?_⟩
  have : PyData.depthAll ds ≤ k - 1 := depthAll_iff.mpr fun d hd => by have := hk d hd; omega
  simp only [PyData.depth]
  omega
theorem good_tup {U : List Int} {n k : Nat} {ds : List PyData} (h : ∀ d ∈ ds, fine U d) (hn : ndAll ds + 1 ≤ n) (hk : ∀ d ∈ ds, d.depth + 1 ≤ k) (k1 : 1 ≤ k) : Good U n k (.tuple ds) := by
  refine ⟨fineAll_iff.mpr h, by simpa [Rp.nd] using hn, ?_⟩
  have : PyData.depthAll ds ≤ k - 1 := depthAll_iff.mpr fun d hd => by have := hk d hd; omega
  simp only [PyData.depth]
  omega
/-- a TERM's data are good -/
theorem tm_good {U : List Int} : ∀ t : Tm, (∀ n ∈ t.nums, n ∈ U) → Good U (2 * t.size) (t.deep + 1) (tmD t)
  | .v n, h => ⟨h n (by simp [Tm.nums]), by simp [tmD, Rp.nd, Tm.size], by simp [tmD, PyData.depth]⟩
  | .z, _ => ⟨⟨.inr (.inl rfl), trivial⟩, by simp [tmD, Rp.nd, ndAll, Tm.size], by simp [tmD, PyData.depth, PyData.depthAll]⟩
  | .s t, h => by
    have g := tm_good t h
    have h1 := g.nd
    have h2 := g.dp
    unfold tmD
    refine good_tup (fun d hd => ?_) ?_ (fun d hd => ?_) (by omega)
    · simp at hd; rcases hd with rfl | rfl
      · exact .inr (.inr (.inl rfl))
      · exact g.fine
    · simp only [ndAll, Rp.nd, Tm.size]; omega
    · simp at hd; rcases hd with rfl | rfl
      · simp [PyData.depth, Tm.deep]
      · simp only [Tm.deep]; omega
  | .f l r, h => by
    have g := tm_good l fun n hn => h n (by simp [Tm.nums, hn])
    have g' := tm_good r fun n hn => h n (by simp [Tm.nums, hn])
    have h1 := g.nd
    have h2 := g.dp
    have h3 := g'.nd
    have h4 := g'.dp
    unfold tmD
    refine good_tup (fun d hd => ?_) ?_ (fun d hd => ?_) (by omega)
    · simp at hd; rcases hd with rfl | rfl | rfl
      · exact .inr (.inr (.inr (.inl rfl)))
      · exact g.fine
      · exact g'.fine
    · simp only [ndAll, Rp.nd, Tm.size]; omega
    · simp at hd; rcases hd with rfl | rfl | rfl
      · simp [PyData.depth, Tm.deep]
      · simp only [Tm.deep]; omega
      · simp only [Tm.deep]; omega
/-- ints of a TERM among the data's -/
theorem tm_fine {U : List Int} : ∀ t : Tm, fine U (tmD t) → ∀ n ∈ t.nums, n ∈ U
  | .v n, h, m, hm => by simp [Tm.nums] at hm; subst hm; exact h
  | .z, h, m, hm => by simp [Tm.nums] at hm
  | .s t, h, m, hm => tm_fine t h.2.1 m hm
  | .f l r, h, m, hm => by
    rcases List.mem_append.mp hm with q | q
    · exact tm_fine l h.2.1 m q
    · exact tm_fine r h.2.2.1 m q
theorem nodup_le : ∀ {L U : List Int}, L.Nodup → (∀ k ∈ L, k ∈ U) → L.length ≤ U.length
  | [], U, _, _ => Nat.zero_le _
  | x :: L, U, h, hs => by
    rw [List.nodup_cons] at h
    have hx := hs x (by simp)
    have := nodup_le (L := L) (U := U.erase x) h.2 fun k hk => (List.mem_erase_of_ne (fun e => h.1 (by rw [← e]; exact hk))).mpr (hs k (by simp [hk]))
    rw [List.length_erase_of_mem hx] at this
    have := List.length_pos_of_mem hx
    rw [List.length_cons]
    omega
/-- the other way: a TERM's data tell its size -/
theorem tm_size : ∀ t : Tm, t.size ≤ nd (tmD t) ∧ t.deep ≤ (tmD t).depth
  | .v n => ⟨by simp [tmD, nd, Tm.size], by simp [Tm.deep]⟩
  | .z => ⟨by simp [tmD, nd, Tm.size], by simp [Tm.deep]⟩
  | .s t => by
    have := tm_size t
    simp only [tmD, nd, ndAll, Tm.size, Tm.deep, PyData.depth, PyData.depthAll]
    omega
  | .f l r => by
    have := tm_size l
    have := tm_size r
    simp only [tmD, nd, ndAll, Tm.size, Tm.deep, PyData.depth, PyData.depthAll]
    omega
end Rp

namespace Rp
open PySem PySem.Spec PyProof.Rows L2
def spTerm : Sp := fun vs H Q _ => ∃ (b : Addr) (v : V) (d : PyData), vs = [v] ∧ DAt H b v d ∧ okD d ∧ nd d ≤ 1000 ∧ ∀ (r : Bool) (H' : Hp), (r = true ↔ IsT d) → Same H H' → Q (.bl r) H'
theorem isVar_iff {d : PyData} (h : ¬ Shaped d) : isVar d = true ↔ IsT d := by
  cases d with
  | int n => rw [isT_int]; simp [isVar]
  | _ => exact ⟨fun e => by simp [isVar] at e, fun e => absurd e (isT_other h fun n z => by cases z)⟩
section
variable {P : Program} {w : World} {K : PySem.W.Frag} {mg : Str → Option Value} {base : Heap}
theorem scTerm : FnScope ["thing", "todo", "part"] ["thing"] (defScope sTerm) := ⟨rfl, rfl, rfl, by decide +kernel, rfl, by decide +kernel, by decide +kernel⟩
theorem ok_term {f fS fV : Addr} {fd dS dV : FuncData} (F : Fun K "is_term" "is_term" sTerm f fd)
    (GS : FnOk P w K mg base CX0 1 fS dS ["thing"] spShape) (kS : PySem.W.keepIn K (.ref fS) = true) (bS : Binds K dS ["thing"] []) (mS : mg "_has_shape" = some (.ref fS))
    (GV : FnOk P w K mg base CX0 2 fV dV ["thing"] spVariable) (kV : PySem.W.keepIn K (.ref fV) = true) (bV : Binds K dV ["thing"] []) (mV : mg "is_variable" = some (.ref fV)) :
    FnOk P w K mg base CX0 3 f fd ["thing"] spTerm := by
  refine F.ok scTerm (fun vs H Q E h => ?_) (fun cdv A outer s H vs Q E hr h => ?_)
  · obtain ⟨b, v, d, rfl, _⟩ := h
    rfl
  obtain ⟨b, v, d, rfl, D, ok, hn, q⟩ := h
  have r1 : Room 1 _ := hr.mono (by decide)
  refine ⟨_, pss_cons (ps_set (i := 1) scTerm.nd rfl (Or.inl rfl) (pe_lst (pa_cons (pv 0) pa_nil)))
    (pss_cons (ps_while PassesOwn.never (pt_truth (pv 1) (by intro _; rfl))
      (pss_cons (ps_set (i := 2) scTerm.nd rfl (Or.inl rfl) (pe_bm0 PySem.F.plainAttrs_list PySem.F.slot_list_pop PySem.F.type_list_pop mt_pop (pv 1)))
      (pss_one (ps_if (pt_val (pe_call GS r1 rfl mS kS bS .nil pass0 (pa_cons (pv 2) pa_nil)))
        (pss_one (ps_expr (pe_bm PySem.F.plainAttrs_list PySem.F.slot_list_extend PySem.F.type_list_extend mt_extendT (pv 1) (pa_cons (pe_slice sl_tup (pv 2) (po_some pe_int) po_none) pa_nil))))
        (pss_one (ps_if (pt_not (pt_val (pe_call GV hr rfl mV kV bV .nil pass0 (pa_cons (pv 2) pa_nil)))) (pss_one (ps_ret pe_bl)) pss_nil))))))
    (pss_one (ps_ret pe_bl))), ?_⟩
  refine ⟨_, rfl, (by show 1 ≤ sizeLine; decide), fun p hp => ?_⟩
  have s1 := same_new hp (.lst [v])
  dsimp only [gName, tSeq]
  refine ⟨fun m σ H2 => ∃ (txs : List V) (ds : List PyData) (x : Option V), σ = [some v, some (.ref p), x] ∧ H2 p = some (.lst txs) ∧ DAtAll H b txs ds ∧ (IsT d ↔ ∀ e ∈ ds, IsT e) ∧ (∀ e ∈ ds, okD e) ∧ ndAll ds ≤ 1000 ∧ m = ndAll ds ∧ Same H H2,
    ⟨nd d, [v], [d], none, rfl, upd_same, .cons D .nil, by simp, by simpa using ok, by simp [ndAll]; exact hn, by simp [ndAll], s1⟩, ?_⟩
  rintro m σ H2 ⟨txs, ds, x, rfl, h2, A1, iff, oks, few, rfl, sH⟩
  refine ⟨_, rfl, !txs.isEmpty, .inl ⟨txs, .inl (.inl h2), rfl⟩, ?_⟩
  rcases List.eq_nil_or_concat txs with e | ⟨M, y, e⟩
  · subst e
    refine iteF ?_
    have e2 : ds = [] := by have := A1.len; cases ds with | nil => rfl | cons => simp at this
    subst e2
    exact q true H2 ⟨fun _ => iff.mpr (by simp), fun _ => rfl⟩ sH
  · rw [List.concat_eq_append] at e
    subst e
    have ne : (!(M ++ [y]).isEmpty) = true := by simp
    rw [ne]
    refine iteT ⟨_, fun _ _ h => h, ?_⟩
    obtain ⟨L, k', e2, AM, Ay⟩ := A1.parted
    subst e2
    obtain ⟨k, rest, rfl, Dk, Ar⟩ := Ay.head
    obtain rfl : rest = [] := by have := Ar.len; cases rest with | nil => rfl | cons => simp at this
    have okk : okD k := oks k (by simp)
    have ilast : IsT d ↔ (∀ e ∈ L, IsT e) ∧ IsT k := by
      rw [iff]
      constructor
      · intro h; exact ⟨fun e he => h e (by simp [he]), h k (by simp)⟩
      · intro h e he
        rcases List.mem_append.mp he with he | he
        · exact h.1 e he
        · simp at he; subst he; exact h.2
    rw [ndAll_append] at few
    -- part = todo.pop()
    refine ⟨_, rfl, .inl ⟨rfl, _, .inl (.inl h2)⟩, p, _, y, rfl, rfl, h2, by simp, ?_⟩
    rw [List.dropLast_concat]
    have pn : H p = none := hp
    have s3 : Same H (upd H2 p (.lst M)) := fun c o z => by rw [upd_ne (ne_of_none z pn)]; exact sH c o z
    have nk : ndAll [k] = nd k := by simp [ndAll]
    refine ⟨_, rfl, b, y, k, rfl, Dk.same s3, okk, fun r H4 hr4 s4 => ?_⟩
    have h4 := s4 _ _ (upd_same : (upd H2 p (.lst M)) p = some (.lst M))
    have sH4 : Same H H4 := s3.trans s4
    cases r with
    | true =>
      refine ⟨true, rfl, iteT ?_⟩
      obtain ⟨sg, ds', rfl, sh⟩ := hr4.mp rfl
      obtain ⟨a, xs, rfl, ha, Ak⟩ := Dk.tup_of
      obtain ⟨x0, ks, rfl, D0, Dks⟩ := Ak.cons_of
      have nks : nd (PyData.tuple (.str sg :: ds')) = ndAll ds' + 2 := by simp [nd, ndAll]; omega
      refine ⟨_, rfl, .inl ⟨rfl, M, .inl (.inl h4)⟩, _, rfl, 1, rfl, a, _, rfl, .inl (.inl (sH4 _ _ ha)), cut_part _ _, fun g hg => ?_⟩
      rw [cut_tail]
      have s5 := same_new hg (.tup ks)
      have lim : M.length + ks.length ≤ sizeLine := by
        have a1 := AM.len
        have a2 := Dks.len
        have a3 := ndAll_len L
        have a4 := ndAll_len ds'
        have a5 : (1000 : Nat) + 1000 ≤ sizeLine := by decide
        omega
      refine ⟨p, g, M, ks, rfl, rfl, s5 _ _ h4, .inl (.inl upd_same), lim, ?_⟩
      refine ⟨ndAll (L ++ ds'), ?_, M ++ ks, L ++ ds', _, rfl, upd_same, AM.append Dks, ?_, ?_, ?_, rfl, ?_⟩
      · rw [ndAll_append, ndAll_append]; omega
      · rw [ilast, isT_shaped sh]
        constructor
        · rintro ⟨h1, h2⟩ e he
          rcases List.mem_append.mp he with he | he
          · exact h1 e he
          · exact h2 e he
        · intro h
          exact ⟨fun e he => h e (by simp [he]), fun e he => h e (by simp [he])⟩
      · intro e he
        rcases List.mem_append.mp he with he | he
        · exact oks e (by simp [he])
        · exact okk.tup e (by simp [he])
      · rw [ndAll_append]; omega
      · intro c o z
        rw [upd_ne (ne_of_none z pn)]
        exact s5 _ _ (sH4 _ _ z)
    | false =>
      refine ⟨false, rfl, iteF ?_⟩
      have ns : ¬ Shaped k := fun z => by have := hr4.mpr z; cases this
      refine ⟨_, rfl, b, y, k, rfl, Dk.same sH4, isVar k, rfl, ?_⟩
      cases ev : isVar k with
      | false =>
        refine iteT (q false H4 ⟨(fun e => nomatch e), fun z => ?_⟩ sH4)
        have := (isVar_iff ns).mpr (ilast.mp z).2
        rw [ev] at this
        cases this
      | true =>
        refine iteF ?_
        have tk := (isVar_iff ns).mp ev
        refine ⟨ndAll L, ?_, M, L, _, rfl, h4, AM, ?_, fun e he => oks e (by simp [he]), by omega, rfl, sH4⟩
        · rw [ndAll_append, nk]; have := nd_pos k; omega
        · rw [ilast]; exact ⟨fun h => h.1, fun h => ⟨h, tk⟩⟩
end
end Rp

/-! a, *b = xs, a list of one item at least. -/
namespace Rp
open PySem PySem.Spec PySem.Calls PyProof.Rows L2 PySem.W
section
variable {prog : Program} {w : World} {A : Around} {E : Value → Shared → Prop} {s : Shared}
theorem unpack_star {l : Addr} {items : Array Value} {n i : Nat} {Q : List Value → Shared → Prop} (isL : s.heap.IsList l items) (calm : A.handled = none) (hi : i < n) (hn : n ≤ items.size + 1) (few : items.size ≤ 16384)
    (go : ∀ (h' : Heap) (tk : Nat), (∀ b o, s.heap.get? b = some o → h'.get? b = some o) → Q (items.toList.take i ++ [.ref h'.objs.size] ++ (items.toList.drop i).drop (items.size + 1 - n))
      { s with heap := h'.push (seqObj "list" ((items.toList.drop i).take (items.size + 1 - n)).toArray 0), toks := tk }) : wpAny (model prog w) A (unpackItems (.ref l) n (some i)) Q E s := by
  have apart : l ≠ s.heap.objs.size := by obtain ⟨o, ho, _⟩ := isL; exact Nat.ne_of_lt (Heap.lt_size ho)
  unfold unpackItems; refine wpAny_bind ?_; unfold notIterableAtAll
  refine wpAny_bind (wpAny_specialOf isL.typeIs slot_list_iter.lookup (wpAny_pure ?_)); simp only [Bool.false_eq_true, if_false]
  refine wpAny_bind (wpAny_holding (wpAny_pyIter_list isL (wpAny_bind (wpAny_holding (kun_draw apart i 0 _ _ ⟨_, Heap.get?_push_size _ rfl, rfl, rfl⟩ (isL.push _) (by omega) fun h₁ it1 sb1 => ?_)))))
  have isL1 : h₁.IsList l items := (isL.push _).extBut sb1.extBut apart
  rw [Nat.zero_add] at it1
  obtain ⟨oi, hoi, _⟩ := id it1
  obtain ⟨ol, hol, _⟩ := id isL1
  rw [List.drop_zero, if_neg (show ¬ ((items.toList.take i).length < i) by rw [List.length_take, Array.length_toList]; omega)]
  refine wpAny_bind (wpAny_holding (kun_collect (s := { s with heap := h₁ }) (T := "list_iterator") (.inr (.inr (.inl rfl))) (Walks.list (A := A.in1) calm s.heap.objs.size l apart items) (fun j u st => st.1.typeIs) (k := i) (by omega) ⟨it1, isL1⟩
    (Heap.lt_size hoi) (Heap.lt_size hol) (fun h₂ tk old => ?_) (by rw [sizeLine_eq]; omega)))
  have rest : (items.toList.drop i).length = items.size - i := by rw [List.length_drop, Array.length_toList]
  show wpAny _ _ (if (items.toList.drop i).length < n - 1 - i then _ else _) _ _ _; rw [if_neg (by rw [rest]; omega)]
  show wpAny _ _ (newList ((items.toList.drop i).take ((items.toList.drop i).length - (n - 1 - i))) >>= fun d => pure (items.toList.take i ++ [d] ++ (items.toList.drop i).drop ((items.toList.drop i).length - (n - 1 - i)))) _ _ _
  rw [show (items.toList.drop i).length - (n - 1 - i) = items.size + 1 - n by rw [rest]; omega]
  refine wpAny_bind (wpAny_newList (wpAny_pure (go h₂ tk fun b o z => old b o (Nat.ne_of_lt (Heap.lt_size z)) (sb1.extBut b o (Nat.ne_of_lt (Heap.lt_size z)) (Heap.get?_push_of_some _ z)))) (by rw [List.length_take, rest, sizeLine_eq]; omega))
end
section
variable {X : Cx} {pos : Pos}
/-- (a, *b) = a list: the first item, a new list of the others -/
def gStar (K : PySem.W.Frag) (t : TGs) : TG := fun v σ H Q => ∃ (a : Addr) (x : V) (xs : List V), v = .ref a ∧ SqL K H a (x :: xs) ∧ xs.length ≤ 16000 ∧ ∀ p, H p = none → t [x, .ref p] σ (upd H p (.lst xs)) Q
theorem pg_star {es : List Expr} {k : Nat} {t : TGs} (calm : X.calm = true) (h : PGs X es t) (hn : (assignEach es X.env).length = 2 := by rfl) (hst : (assignEach es X.env).findIdx? (·.1) = some 1 := by rfl) : PG X (.Tuple es k pos) (gStar X.K t) := by
  refine ⟨fun pins s σ H v u Q I r hw => ?_⟩
  obtain ⟨a, x, xs, rfl, sq, few, go⟩ := hw
  cases r
  obtain ⟨its, rv, isL, _⟩ := I.list sq
  have len := rv.length
  cases rv with
  | @cons _ v0 _ vs r0 rr =>
    have lv := rr.length
    rw [assign_Tuple]
    refine wpAny_bind (wpAny_standAt ?_)
    unfold unpack
    rw [hn, hst]
    refine wpAny_bind (wpAny_holding (unpack_star isL.isList (I.ok.hd calm) (by decide) (by simp) (by simp; omega) fun h' tk old => ?_))
    have J : Inv X pins σ H { s with heap := h', toks := tk } := I.kept old
    have big : (20000 : Nat) ≤ sizeLine := by decide
    have K1 : Inv X pins σ (upd H h'.objs.size (.lst xs)) { s with heap := h'.push (seqObj "list" vs.toArray 0), toks := tk } :=
      J.laid (t' := tk) (fun b o z => Heap.get?_push_of_some _ z) (Nat.le_refl _) ⟨by omega, vs, 0, rr, Heap.get?_push_size _ rfl⟩
    have e1 : ((v0 :: vs).toArray.toList.drop 1).take ((v0 :: vs).toArray.size + 1 - 2) = vs := by simp
    have e2 : (v0 :: vs).toArray.toList.take 1 ++ [Value.ref h'.objs.size] ++ ((v0 :: vs).toArray.toList.drop 1).drop ((v0 :: vs).toArray.size + 1 - 2) = [v0, .ref h'.objs.size] := by simp
    rw [e1, e2]
    exact h.run pins _ σ _ [x, .ref h'.objs.size] _ Q K1 (.cons r0 (.cons rfl .nil)) (go _ (J.hok.fresh (Nat.le_refl _)))
end
end Rp

set_option maxHeartbeats 8000000
/-! NAMEs and ATOMs. -/
namespace Rp
open PySem PySem.Spec PyProof.Rows L2 TL
def letters : Str := "abcdefghijklmnopqrstuvwxyz"
structure NameOk (x : Str) : Prop where
  pos : 1 ≤ x.length
  few : x.length ≤ 6
  low : ∀ c ∈ tl x, 97 ≤ c ∧ c ≤ 122
  nif : x ≠ "if"
theorem in_letters {c : Nat} (h : 97 ≤ c ∧ c ≤ 122) : c ∈ letters.cps.toList := by
  have all : ∀ k : Fin 26, k.val + 97 ∈ letters.cps.toList := by decide +kernel
  have := all ⟨c - 97, by omega⟩
  rwa [show c - 97 + 97 = c by omega] at this
theorem tm_ok : ∀ t : Tm, (tmD t).canLay0 = true ∧ (tmD t).depth ≤ t.deep + 1 ∧ nd (tmD t) ≤ 2 * t.size
  | .v n => ⟨rfl, by simp [tmD, PyData.depth], by simp [tmD, nd, Tm.size]⟩
  | .z => ⟨by decide +kernel, by simp [tmD, PyData.depth, PyData.depthAll], by simp [tmD, nd, ndAll, Tm.size]⟩
  | .s t => by
    have ih := tm_ok t
    have a : PyData.canLay0 (.str "s") = true := by decide +kernel
    refine ⟨?_, ?_, ?_⟩
    · simp only [tmD, PyData.canLay0, PyData.canLayAll0, Bool.and_true, Bool.and_eq_true]; exact ⟨by simpa [PyData.canLay0] using a, ih.1⟩
    · simp only [tmD, PyData.depth, PyData.depthAll, Tm.deep]; omega
    · simp only [tmD, nd, ndAll, Tm.size]; omega
  | .f l r => by
    have ih := tm_ok l
    have ih2 := tm_ok r
    have a : PyData.canLay0 (.str "f") = true := by decide +kernel
    refine ⟨?_, ?_, ?_⟩
    · simp only [tmD, PyData.canLay0, PyData.canLayAll0, Bool.and_true, Bool.and_eq_true]; exact ⟨by simpa [PyData.canLay0] using a, ih.1, ih2.1⟩
    · simp only [tmD, PyData.depth, PyData.depthAll, Tm.deep]; omega
    · simp only [tmD, nd, ndAll, Tm.size]; omega
structure At where
  nm : Str
  ts : List Tm
structure AtOk (z : Nat) (a : At) : Prop where
  nm : NameOk a.nm
  one : 1 ≤ a.ts.length
  two : a.ts.length ≤ 2
  sm : ∀ t ∈ a.ts, t.small ∧ t.size ≤ z
def AtAt (H : Hp) (v : V) (a : At) : Prop := ∃ (p : Addr) (xs : List V), v = .ref p ∧ H p = some (.tup (.str a.nm :: xs)) ∧ AllAt H xs a.ts
def spIsName : Sp := fun vs H Q _ => ∃ x : Str, vs = [.str x] ∧ NameOk x ∧ ∀ H', Same H H' → Q (.bl true) H'
def spIsAtom : Sp := fun vs H Q _ => ∃ (v : V) (a : At), vs = [v] ∧ AtAt H v a ∧ AtOk 50 a ∧ ∀ H', Same H H' → Q (.bl true) H'
section
variable {P : Program} {w : World} {K : PySem.W.Frag} {mg : Str → Option Value} {base : Heap}
theorem scIsName : FnScope ["thing", "sign"] ["thing"] (defScope sIsName) := ⟨rfl, rfl, rfl, by decide +kernel, rfl, by decide +kernel, by decide +kernel⟩
theorem ok_isname {f : Addr} {fd : FuncData} {t1 t2 : Tok} (F : Fun K "is_name" "is_name" sIsName f fd) (M : SameG mg) (mL : mg "LETTERS" = some (.str letters t1)) (mM : mg "MOST_LETTERS" = some (.int 6 t2)) : FnOk P w K mg base CX0 1 f fd ["thing"] spIsName := by
  refine F.ok scIsName (fun vs H Q E h => ?_) (fun cdv A outer s H vs Q E hr h => ?_)
  · obtain ⟨x, rfl, _⟩ := h
    rfl
  obtain ⟨x, rfl, ok, q⟩ := h
  refine ⟨_, pss_cons (ps_if (PW.pt (pw_or (pt_not (pt_val (pe_callB (id := "isinstance") call_isi (by rfl) M.isi (by decide +kernel) (pa_cons (pv 0) (pa_cons (pe_bltn (v := .ty "str") (by rfl) M.str (by decide +kernel) rfl) pa_nil)))))
      (pw_or1 (pt_not (pt_chain op_le op_le pe_int (pe_callB call_len_str (by rfl) M.len PySem.boot_len (pa_cons (pv 0) pa_nil)) (pe_glob (v := .int 6) rfl mM ⟨_, rfl⟩)))))) (pss_one (ps_ret pe_bl)) pss_nil)
    (pss_one (ps_ret (pe_and (pe_cmpR op_ne (pv 0) pe_str (nomark _)) (pe_one (pe_callB (cr_all rfl) (by rfl) M.all (by decide +kernel) (pa_cons (pe_lc (own := [("sign", 1)]) (g := gName 1) (tt := tYes) (te := tOp rInS (tVar 1) (tC (.str letters))) rfl scIsName.nd
        (pi_str (pv 0)) (blkOk_by (N := ["thing", "sign"]) (sc := defScope sIsName) (by decide +kernel)) (fun _ _ _ _ _ => pg_name (i := 1) scIsName.nd rfl (Or.inl rfl))
        (fun _ _ _ _ _ => pts_nil) (fun _ _ _ _ _ => pe_cmpR op_inS (pv 1) (pe_glob (v := .str letters) (by rfl) mL ⟨_, rfl⟩) (by rfl))) pa_nil)))))), ?_⟩
  have big : (10000 : Nat) ≤ sizeLine := by decide
  have h1 := ok.pos
  have h2 := ok.few
  refine ⟨_, rfl, _, _, _, _, true, rfl, .ty "str", .base (.str x), kit_ty (by decide +kernel), true, rfl, iteF ?_⟩
  refine ⟨_, rfl, x, rfl, by omega, _, _, rfl, rfl, decide ((1 : Int) ≤ (x.length : Nat)), rfl, ?_⟩
  rw [decide_eq_true (by omega)]
  refine iteT ⟨_, _, rfl, rfl, true, congrArg V.bl (decide_eq_true (by omega)), iteF ?_⟩
  refine ⟨_, rfl, rfl, true, congrArg (fun z => V.bl (!z)) (str_ne ok.nif), iteT ?_⟩
  refine ⟨_, rfl, x, rfl, fun D hD => lc_it (walk_str (z := x)) (fun i H2 => H2 D = some (.lst (List.replicate i (V.bl true))) ∧ Same H H2) ⟨upd_same, same_new hD _⟩ (fun _ _ _ _ => trivial) ?_ ?_⟩
  · rintro i y H2 H3 hi ⟨h2, s2⟩ ⟨rfl, c, hc, rfl⟩
    have cm : c ∈ tl x := Array.mem_toList_iff.mpr (Array.mem_of_getElem? hc)
    have cl := in_letters (ok.low c cm)
    have li : x.cps.size = x.length := rfl
    refine ⟨rfl, ?_⟩
    refine ⟨_, rfl, c, letters, rfl, rfl, _, h2, ?_, ?_, ?_⟩
    · rw [List.length_replicate]; omega
    · rw [decide_eq_true cl, upd_same, List.replicate_succ']
    · intro a o z
      rw [upd_ne (ne_of_none z hD)]
      exact s2 _ _ z
  · rintro H2 ⟨h2, s2⟩
    have e : (List.replicate x.cps.size true).all id = true := by rw [List.all_eq_true]; intro y hy; rw [List.eq_of_mem_replicate hy]; rfl
    refine ⟨D, List.replicate x.cps.size true, rfl, .inl (.inl (by rw [List.map_replicate]; exact h2)), ?_⟩
    rw [e]
    exact q H2 s2
theorem scIsAtom : FnScope ["thing", "term"] ["thing"] (defScope sIsAtom) := ⟨rfl, rfl, rfl, by decide +kernel, rfl, by decide +kernel, by decide +kernel⟩
theorem ok_isatom {f fN fT : Addr} {fd dN dT : FuncData} (F : Fun K "is_atom" "is_atom" sIsAtom f fd)
    (GN : FnOk P w K mg base CX0 1 fN dN ["thing"] spIsName) (kN : PySem.W.keepIn K (.ref fN) = true) (bN : Binds K dN ["thing"] []) (mN : mg "is_name" = some (.ref fN))
    (GT : FnOk P w K mg base CX0 3 fT dT ["thing"] spTerm) (kT : PySem.W.keepIn K (.ref fT) = true) (bT : Binds K dT ["thing"] []) (mT : mg "is_term" = some (.ref fT)) (M : SameG mg) : FnOk P w K mg base CX0 4 f fd ["thing"] spIsAtom := by
  refine F.ok scIsAtom (fun vs H Q E h => ?_) (fun cdv A outer s H vs Q E hr h => ?_)
  · obtain ⟨v, a, rfl, _⟩ := h
    rfl
  obtain ⟨v, a, rfl, ⟨p, xs, rfl, hp, A1⟩, ok, q⟩ := h
  have r1 : Room 1 _ := hr.mono (by decide)
  refine ⟨_, pss_cons (ps_if (PW.pt (pw_or (pt_not (pt_val (pe_callB (id := "isinstance") call_isi (by rfl) M.isi (by decide +kernel) (pa_cons (pv 0) (pa_cons (pe_bltn (v := .ty "tuple") (by rfl) M.tuple (by decide +kernel) rfl) pa_nil)))))
      (pw_or1 (pt_not (pt_chain op_le op_le pe_int (pe_callB call_len_seq (by rfl) M.len PySem.boot_len (pa_cons (pv 0) pa_nil)) pe_int))))) (pss_one (ps_ret pe_bl)) pss_nil)
    (pss_one (ps_ret (pe_and (pe_call GN r1 rfl mN kN bN .nil pass0 (pa_cons (pe_ix ix_tup (pv 0) pe_int (fun _ _ => rfl)) pa_nil)) (pe_one (pe_callB (cr_all rfl) (by rfl) M.all (by decide +kernel) (pa_cons (pe_lc (own := [("term", 1)]) (g := gName 1) (tt := tYes) (te := tCall spTerm [] E0 (tCons (tVar 1) tNil)) rfl scIsAtom.nd
        (pi_tup (pe_slice sl_tup (pv 0) (po_some pe_int) po_none)) (blkOk_by (N := ["thing", "term"]) (sc := defScope sIsAtom) (by decide +kernel)) (fun _ _ _ _ _ => pg_name (i := 1) scIsAtom.nd rfl (Or.inl rfl))
        (fun _ _ _ _ _ => pts_nil) (fun _ _ _ _ _ => pe_call GT hr (by rfl) mT kT bT .nil pass0 (pa_cons (pv 1) pa_nil))) pa_nil)))))), ?_⟩
  have big : (10000 : Nat) ≤ sizeLine := by decide
  have xl := A1.len
  have o1 := ok.one
  have o2 := ok.two
  refine ⟨_, rfl, _, _, _, _, true, rfl, .ty "tuple", .base (.tup hp), kit_ty (by decide +kernel), true, rfl, iteF ?_⟩
  have l2 : (((V.str a.nm :: xs).length : Nat) : Int) = (xs.length : Nat) + 1 := by rw [List.length_cons]; omega
  refine ⟨_, rfl, p, _, rfl, .inr (.inl (.inl hp)), _, _, rfl, rfl, true, congrArg V.bl (decide_eq_true (by omega)), iteT ⟨_, _, rfl, rfl, true, congrArg V.bl (decide_eq_true (by omega)), iteF ?_⟩⟩
  refine ⟨_, rfl, p, _, _, _, rfl, rfl, .inl (.inl hp), at_of (j := 0) rfl rfl, a.nm, rfl, ok.nm, fun H1 s1 => ⟨true, rfl, iteT ?_⟩⟩
  refine ⟨_, rfl, 1, rfl, p, _, rfl, .inl (.inl (s1 _ _ hp)), cut_part _ _, fun g hg => ?_⟩
  rw [cut_tail]
  have s2 := same_new hg (.tup xs)
  refine ⟨g, rfl, ⟨_, .inl (.inl upd_same)⟩, fun D hD => lc_tup (K := K) (a := g) (xs := xs) (fun i H2 => H2 D = some (.lst (List.replicate i (V.bl true))) ∧ Same (upd H1 g (.tup xs)) H2) ⟨upd_same, same_new hD _⟩ (fun i H2 _ h => .inl (.inl (h.2 _ _ upd_same))) ?_ ?_⟩
  · rintro i x H2 hi ⟨h2, s3⟩
    obtain ⟨t, ht, T⟩ := A1.get hi
    obtain ⟨sm, sz⟩ := ok.sm t (List.mem_of_getElem? ht)
    have li : i < xs.length := (List.getElem?_eq_some_iff.mp hi).1
    have d1 := Tm.deep_lt t
    have T2 := ((T.same s1).same s2).same s3
    obtain ⟨c1, c2, c3⟩ : (tmD t).canLay0 = true ∧ (tmD t).depth ≤ t.deep + 1 ∧ nd (tmD t) ≤ 2 * t.size := tm_ok t
    refine ⟨rfl, ?_⟩
    refine ⟨_, rfl, g, x, tmD t, rfl, T2.dat, ⟨c1, by omega⟩, by omega, fun r H3 hr3 s4 => ?_⟩
    obtain rfl : r = true := hr3.mpr ⟨t, rfl, sm⟩
    refine ⟨_, s4 _ _ h2, ?_, ?_, ?_⟩
    · rw [List.length_replicate]; omega
    · rw [upd_same, List.replicate_succ']
    · intro c o z
      rw [upd_ne (ne_of_none z hD)]
      exact s4 _ _ (s3 _ _ z)
  · rintro H2 ⟨h2, s3⟩
    have e : (List.replicate xs.length true).all id = true := by rw [List.all_eq_true]; intro y hy; rw [List.eq_of_mem_replicate hy]; rfl
    refine ⟨D, List.replicate xs.length true, rfl, .inl (.inl (by rw [List.map_replicate]; exact h2)), ?_⟩
    rw [e]
    exact q H2 (s1.trans (s2.trans s3))
end
end Rp

set_option maxHeartbeats 8000000
namespace Rp
open PySem PySem.Spec PyProof.Rows L2 TL StX
theorem pgs_star {X : Cx} {e : Expr} {es : List Expr} {p : Pos} {t : TG} {u : TGs} (h1 : PG X e t) (h2 : PGs X es u) (hs : (assignEach (.Starred e p :: es) X.env).map (·.2) = assign e X.env :: (assignEach es X.env).map (·.2) := by rfl) : PGs X (.Starred e p :: es) (gCons t u) := by
  refine ⟨fun pins s σ H vs us Q I rel told => ?_⟩
  obtain ⟨v, rest, rfl, told⟩ := told
  cases rel with
  | cons r rr =>
    rw [hs]
    exact assignInOrder_cons (thn (h1.run pins s σ H _ _ _ I r told) fun _ s1 ⟨σ1, H1, J, go⟩ => h2.run pins s1 σ1 H1 _ _ Q J rr go)
theorem t_sp : tl (" " : Str) = [32] := by decide +kernel
theorem txt_low : ∀ (t : Tm), t.small → ∀ d ∈ tl t.txt, 40 ≤ d ∧ d ≤ 120
  | .v n, h, d, hd => by
    have hd : d ∈ tl (("x" : Str) ++ Str.ofString (toString n)) := hd
    rw [tl_append, t_x, tl_int (h n (by simp [Tm.nums])).1] at hd
    rcases List.mem_append.mp hd with hd | hd
    · simp at hd; omega
    · have := numL_small _ d hd; omega
  | .z, h, d, hd => by
    have hd : d ∈ tl ("0" : Str) := hd
    rw [t_0] at hd; simp at hd; omega
  | .s t, h, d, hd => by
    have hd : d ∈ tl (("s" : Str) ++ "(" ++ Txt.join "," [t.txt] ++ ")") := hd
    rw [join1, tl_append, tl_append, tl_append, t_s, t_open, t_close] at hd
    simp only [List.mem_append, List.mem_singleton] at hd
    rcases hd with ((hd | hd) | hd) | hd
    · omega
    · omega
    · exact txt_low t h d hd
    · omega
  | .f l r, h, d, hd => by
    have hd : d ∈ tl (("f" : Str) ++ "(" ++ Txt.join "," [l.txt, r.txt] ++ ")") := hd
    rw [join2, tl_append, tl_append, tl_append, tl_append, tl_append, t_f, t_open, t_close, t_comma] at hd
    simp only [List.mem_append, List.mem_singleton] at hd
    rcases hd with ((hd | hd) | (hd | hd) | hd) | hd
    · omega
    · omega
    · exact txt_low l (fun n hn => h n (by simp [Tm.nums, hn])) d hd
    · omega
    · exact txt_low r (fun n hn => h n (by simp [Tm.nums, hn])) d hd
    · omega
def parts (a : At) : List Str := a.nm :: a.ts.map Tm.txt
def atxt (a : At) : Str := Txt.join " " (parts a)
theorem parts_free {z : Nat} {a : At} (ok : AtOk z a) : ∀ p ∈ parts a, 32 ∉ tl p := by
  intro p hp hd
  rcases List.mem_cons.mp hp with rfl | hp
  · have := ok.nm.low _ hd; omega
  · obtain ⟨t, ht, rfl⟩ := List.mem_map.mp hp
    have := txt_low t (ok.sm t ht).1 _ hd
    omega
theorem atxt_split {z : Nat} {a : At} (ok : AtOk z a) : Txt.split (atxt a) " " = parts a := split_join t_sp (by decide +kernel) (by simp [parts]) (parts_free ok)
theorem parts_sum {a : At} (ok : AtOk 50 a) : ((parts a).map (·.length)).sum + (parts a).length * 1 ≤ 500 := by
  have h1 := ok.nm.few
  have each : ∀ t ∈ a.ts, t.txt.length ≤ 200 := fun t ht => by
    have := txt_len t (ok.sm t ht).1
    have := (ok.sm t ht).2
    omega
  have o1 := ok.one
  have o2 := ok.two
  unfold parts
  match hts : a.ts with
  | [] => rw [hts] at o1; simp at o1
  | [t] => have := each t (by rw [hts]; simp); simp; omega
  | [t, u] => have := each t (by rw [hts]; simp); have := each u (by rw [hts]; simp); simp; omega
  | t :: u :: v :: r => rw [hts] at o2; simp at o2
theorem atxt_len {a : At} (ok : AtOk 50 a) : (atxt a).length ≤ 500 := by
  have jl := StrLaws.join_length_le " " (parts a)
  have l1 : (" " : Str).length = 1 := by decide +kernel
  rw [l1] at jl
  have := parts_sum ok
  unfold atxt
  rw [join_eq]
  omega
def spAtomText : Sp := fun vs H Q _ => ∃ (v : V) (a : At), vs = [v] ∧ AtAt H v a ∧ AtOk 50 a ∧ ∀ H', Same H H' → Q (.str (atxt a)) H'
def spAtomOr : Sp := fun vs H Q _ => ∃ a : At, vs = [.str (atxt a)] ∧ AtOk 50 a ∧ ∀ (v : V) (H' : Hp), AtAt H' v a → Same H H' → Q v H'
section
variable {P : Program} {w : World} {K : PySem.W.Frag} {mg : Str → Option Value} {base : Heap}
theorem scAtomText : FnScope ["atom", "term"] ["atom"] (defScope sAtomText) := ⟨rfl, rfl, rfl, by decide +kernel, rfl, by decide +kernel, by decide +kernel⟩
theorem ok_atomtext {f fT : Addr} {fd dT : FuncData} (F : Fun K "atom_text" "atom_text" sAtomText f fd)
    (GT : FnOk P w K mg base CX0 4 fT dT ["term"] spTermText) (kT : PySem.W.keepIn K (.ref fT) = true) (bT : Binds K dT ["term"] []) (mT : mg "term_text" = some (.ref fT)) : FnOk P w K mg base CX0 5 f fd ["atom"] spAtomText := by
  refine F.ok scAtomText (fun vs H Q E h => ?_) (fun cdv A outer s H vs Q E hr h => ?_)
  · obtain ⟨v, a, rfl, _⟩ := h
    rfl
  obtain ⟨v, a, rfl, ⟨p, xs, rfl, hp, A1⟩, ok, q⟩ := h
  refine ⟨_, pss_one (ps_ret (pe_bm PySem.F.plainAttrs_str PySem.F.slot_str_join PySem.F.type_str_join mt_join pe_str (pa_cons (pe_lst (pa_cons (pe_ix ix_tup (pv 0) pe_int (fun _ _ => rfl)) (pa_star
      (pe_lc (own := [("term", 1)]) (g := gName 1) (tt := tYes) (te := tCall spTermText [] E0 (tCons (tVar 1) tNil)) rfl scAtomText.nd (pi_tup (pe_slice sl_tup (pv 0) (po_some pe_int) po_none)) (blkOk_by (N := ["atom", "term"]) (sc := defScope sAtomText) (by decide +kernel)) (fun _ _ _ _ _ => pg_name (i := 1) scAtomText.nd rfl (Or.inl rfl))
        (fun _ _ _ _ _ => pts_nil) (fun _ _ _ _ _ => pe_call GT hr (by rfl) mT kT bT .nil pass0 (pa_cons (pv 1) pa_nil))) pa_nil))) pa_nil))), ?_⟩
  have big : (10000 : Nat) ≤ sizeLine := by decide
  have xl := A1.len
  have o2 := ok.two
  refine ⟨rfl, _, rfl, p, _, _, _, rfl, rfl, .inl (.inl hp), at_of (j := 0) rfl rfl, _, rfl, 1, rfl, p, _, rfl, .inl (.inl hp), cut_part _ _, fun g hg => ?_⟩
  rw [cut_tail]
  have s2 := same_new hg (.tup xs)
  refine ⟨g, rfl, ⟨_, .inl (.inl upd_same)⟩, fun D hD => lc_tup (K := K) (a := g) (xs := xs) (fun i H2 => H2 D = some (.lst (((a.ts.take i).map Tm.txt).map V.str)) ∧ Same (upd H g (.tup xs)) H2) ⟨upd_same, same_new hD _⟩ (fun i H2 _ h => .inl (.inl (h.2 _ _ upd_same))) ?_ ?_⟩
  · rintro i x H2 hi ⟨h2, s3⟩
    obtain ⟨t, ht, T⟩ := A1.get hi
    obtain ⟨sm, sz⟩ := ok.sm t (List.mem_of_getElem? ht)
    refine ⟨rfl, ?_⟩
    refine ⟨_, rfl, x, t, rfl, (T.same s2).same s3, sm, by omega, fun H3 s4 => ⟨_, s4 _ _ h2, ?_, ?_, ?_⟩⟩
    · rw [List.length_map, List.length_map, List.length_take]; omega
    · have tk : a.ts.take (i + 1) = a.ts.take i ++ [t] := by rw [List.take_add_one, ht]; rfl
      rw [upd_same, tk, List.map_append, List.map_append]; rfl
    · intro c o z
      rw [upd_ne (ne_of_none z hD)]
      exact s4 _ _ (s3 _ _ z)
  · rintro H2 ⟨h2, s3⟩
    rw [xl, List.take_of_length_le (Nat.le_refl _)] at h2
    refine ⟨D, _, rfl, .inr (.inl (.inl h2)), ?_⟩
    have ps := parts_sum ok
    have l1 : (" " : Str).length = 1 := by decide +kernel
    have e : [V.str a.nm] ++ ((a.ts.map Tm.txt).map V.str ++ []) = (parts a).map V.str := by simp [parts]
    refine ⟨?_, fun l hl => ?_⟩
    · simp; omega
    · have s4 := same_new hl (.lst ((parts a).map V.str))
      refine ⟨" ", l, parts a, rfl, rfl, .inl (.inl (.inl ?_)), by rw [l1]; omega, ?_⟩
      · rw [upd_same]; simp [parts]
      · exact q _ (s2.trans (Same.trans (H1 := H2) s3 (same_new hl _)))
end
end Rp

set_option maxHeartbeats 8000000
namespace Rp
open PySem PySem.Spec PyProof.Rows L2 TL StX
section
variable {P : Program} {w : World} {K : PySem.W.Frag} {mg : Str → Option Value} {base : Heap}
theorem scAtomOr : FnScope ["text", "name", "terms", "atom", "term"] ["text"] (defScope sAtomOr) := ⟨rfl, rfl, rfl, by decide +kernel, rfl, by decide +kernel, by decide +kernel⟩
theorem ok_atomor {f fT fI : Addr} {fd dT dI : FuncData} (F : Fun K "atom_or_none" "atom_or_none" sAtomOr f fd)
    (GT : FnOk P w K mg base CX0 5 fT dT ["text"] spTermOr) (kT : PySem.W.keepIn K (.ref fT) = true) (bT : Binds K dT ["text"] []) (mT : mg "term_or_none" = some (.ref fT))
    (GI : FnOk P w K mg base CX0 4 fI dI ["thing"] spIsAtom) (kI : PySem.W.keepIn K (.ref fI) = true) (bI : Binds K dI ["thing"] []) (mI : mg "is_atom" = some (.ref fI)) : FnOk P w K mg base CX0 6 f fd ["text"] spAtomOr := by
  refine F.ok scAtomOr (fun vs H Q E h => ?_) (fun cdv A outer s H vs Q E hr h => ?_)
  · obtain ⟨a, rfl, _⟩ := h
    rfl
  obtain ⟨a, rfl, ok, q⟩ := h
  have r4 : Room 4 _ := hr.mono (by decide)
  refine ⟨_, pss_cons (ps_asg (pe_split (pv 0) pe_str) (pg_star rfl (pgs_cons (pg_name (i := 1) scAtomOr.nd rfl (Or.inl rfl)) (pgs_star (pg_name (i := 2) scAtomOr.nd rfl (Or.inl rfl)) pgs_nil))))
    (pss_cons (ps_set (i := 3) scAtomOr.nd rfl (Or.inl rfl) (pe_tup (pa_cons (pv 1) (pa_star
      (pe_lc (own := [("term", 4)]) (g := gName 4) (tt := tYes) (te := tCall spTermOr [] E0 (tCons (tVar 4) tNil)) rfl scAtomOr.nd (pi_list (pv 2)) (blkOk_by (N := ["text", "name", "terms", "atom", "term"]) (sc := defScope sAtomOr) (by decide +kernel)) (fun _ _ _ _ _ => pg_name (i := 4) scAtomOr.nd rfl (Or.inl rfl))
        (fun _ _ _ _ _ => pts_nil) (fun _ _ _ _ _ => pe_call GT hr (by rfl) mT kT bT .nil pass0 (pa_cons (pv 4) pa_nil))) pa_nil))))
    (pss_one (ps_ret (pe_ifExp (pt_val (pe_call GI r4 rfl mI kI bI .nil pass0 (pa_cons (pv 3) pa_nil))) (pv 3) pe_non)))), ?_⟩
  have big : (10000 : Nat) ≤ sizeLine := by decide
  have al := atxt_len ok
  have o2 := ok.two
  refine ⟨_, rfl, ⟨_, rfl⟩, atxt a, " ", rfl, rfl, by decide +kernel, by omega, fun l hl => ?_⟩
  rw [atxt_split ok]
  have s1 := same_new hl (.lst ((parts a).map V.str))
  refine ⟨l, .str a.nm, (a.ts.map Tm.txt).map V.str, rfl, .inl (.inl upd_same), by simp; omega, fun p hp => ?_⟩
  have s2 := same_new hp (.lst ((a.ts.map Tm.txt).map V.str))
  refine ⟨_, _, rfl, _, _, rfl, rfl, ?_⟩
  have hp2 : (upd (upd H l (.lst ((parts a).map V.str))) p (.lst ((a.ts.map Tm.txt).map V.str))) p = some (.lst ((a.ts.map Tm.txt).map V.str)) := upd_same
  refine ⟨_, rfl, _, rfl, p, rfl, ⟨_, .inl (.inl hp2)⟩, fun D hD => lc_list (K := K) (a := p) (xs := (a.ts.map Tm.txt).map V.str) (fun i H2 => ∃ xs : List V, H2 D = some (.lst xs) ∧ AllAt H2 xs (a.ts.take i) ∧ Same (upd (upd H l (.lst ((parts a).map V.str))) p (.lst ((a.ts.map Tm.txt).map V.str))) H2)
    ⟨[], upd_same, trivial, same_new hD _⟩ (fun i H2 _ ⟨_, _, _, h⟩ => .inl (.inl (h _ _ hp2))) ?_ ?_⟩
  · rintro i x H2 hi ⟨xs, h2, A2, s3⟩
    rw [List.map_map, List.getElem?_map] at hi
    obtain ⟨t, ht, rfl⟩ : ∃ t, a.ts[i]? = some t ∧ x = .str t.txt := by
      cases hq : a.ts[i]? with
      | none => rw [hq] at hi; cases hi
      | some t => rw [hq] at hi; exact ⟨t, rfl, by simpa using hi.symm⟩
    obtain ⟨sm, sz⟩ := ok.sm t (List.mem_of_getElem? ht)
    have xl := A2.len
    rw [List.length_take] at xl
    refine ⟨rfl, ?_⟩
    refine ⟨_, rfl, t, rfl, sm, by omega, fun v H3 T s4 => ?_⟩
    have h3 := s4 _ _ h2
    have keep : ∀ b zs, H3 b = some (.tup zs) → (upd H3 D (.lst (xs ++ [v]))) b = some (.tup zs) := fun b zs z => by rw [upd_ne (ne_of z h3 (by intro e; cases e))]; exact z
    have tk : a.ts.take (i + 1) = a.ts.take i ++ [t] := by rw [List.take_add_one, ht]; rfl
    refine ⟨xs, h3, by omega, xs ++ [v], upd_same, ?_, ?_⟩
    · rw [tk]
      exact (A2.mono fun b zs z => keep b zs (s4 _ _ z)).append ⟨T.mono keep, trivial⟩
    · intro c o z
      rw [upd_ne (ne_of_none z hD)]
      exact s4 _ _ (s3 _ _ z)
  · rintro H2 ⟨xs, h2, A2, s3⟩
    rw [List.length_map, List.length_map, List.take_of_length_le (Nat.le_refl _)] at A2
    have xl := A2.len
    refine ⟨D, xs, rfl, .inr (.inl (.inl h2)), ?_⟩
    refine ⟨by simp; omega, fun g hg => ?_⟩
    have e0 : V.str a.nm :: (xs ++ []) = V.str a.nm :: xs := by simp
    rw [e0]
    have s4 := same_new hg (.tup (V.str a.nm :: xs))
    have T4 : AtAt (upd H2 g (.tup (V.str a.nm :: xs))) (.ref g) a := ⟨g, xs, rfl, upd_same, A2.mono fun b zs z => s4 _ _ z⟩
    have sA : Same H _ := s1.trans (s2.trans (s3.trans s4))
    refine ⟨_, rfl, _, a, rfl, T4, ok, fun H5 s5 => ⟨true, rfl, iteT ⟨_, rfl, q _ H5 ?_ (sA.trans s5)⟩⟩⟩
    obtain ⟨g', xs', e1, e2, e3⟩ := T4
    exact ⟨g', xs', e1, s5 _ _ e2, e3.mono fun b zs z => s5 _ _ z⟩
theorem scAtomIn : FnScope ["text", "atom"] ["text"] (defScope sAtomIn) := ⟨rfl, rfl, rfl, by decide +kernel, rfl, by decide +kernel, by decide +kernel⟩
theorem ok_atomin {f fO : Addr} {fd dO : FuncData} (F : Fun K "atom_in" "atom_in" sAtomIn f fd)
    (GO : FnOk P w K mg base CX0 6 fO dO ["text"] spAtomOr) (kO : PySem.W.keepIn K (.ref fO) = true) (bO : Binds K dO ["text"] []) (mO : mg "atom_or_none" = some (.ref fO)) : FnOk P w K mg base CX0 7 f fd ["text"] spAtomOr := by
  refine F.ok scAtomIn (fun vs H Q E h => ?_) (fun cdv A outer s H vs Q E hr h => ?_)
  · obtain ⟨a, rfl, _⟩ := h
    rfl
  obtain ⟨a, rfl, ok, q⟩ := h
  refine ⟨_, pss_cons (ps_set (i := 1) scAtomIn.nd rfl (Or.inl rfl) (pe_call GO hr rfl mO kO bO .nil pass0 (pa_cons (pv 0) pa_nil)))
    (pss_cons (ps_if (pt_cmpR op_isN (pv 1) pe_non (nomark _)) pss_never pss_nil) (pss_one (ps_ret (pv 1)))), ?_⟩
  refine ⟨_, rfl, a, rfl, ok, fun v H1 T s1 => ?_⟩
  have vn : v ≠ .non := by obtain ⟨g, xs, rfl, _⟩ := T; intro z; cases z
  exact ⟨_, rfl, rfl, false, congrArg V.bl (decide_eq_false vn), iteF ⟨_, rfl, q v H1 T s1⟩⟩
end
end Rp

set_option maxHeartbeats 8000000
/-! Heads of RULEs. -/
namespace Rp
open PySem PySem.Spec PyProof.Rows L2 TL StX
theorem mt_extendA {X : Cx} : MtM X "list.extend" (fun x vs H Q => rExtend x vs H Q ∨ rExtT X.K x vs H Q) := by
  intro pins s σ H x vs v us Q I rx rv h
  rcases h with h | h
  · exact mt_extend pins s σ H x vs v us Q I rx rv h
  · exact mt_extendT pins s σ H x vs v us Q I rx rv h
/-- a variable, a nought, a step or a fork of variables -/
def Tm.plain : Tm → Prop
  | .v _ => True | .z => True | .s (.v _) => True | .f (.v _) (.v _) => True | _ => False
def hvars (ts : List Tm) : List Int := ts.flatMap Tm.nums
structure HdOk (a : At) : Prop extends AtOk 50 a where
  pl : ∀ t ∈ a.ts, t.plain
  rng : hvars a.ts = (List.range (hvars a.ts).length).map Int.ofNat
def spHeadVars : Sp := fun vs H Q _ => ∃ (v : V) (a : At), vs = [v] ∧ AtAt H v a ∧ HdOk a ∧ ∀ (p : Addr) (H' : Hp), H p = none → H' p = some (.lst ((hvars a.ts).map V.int)) → Same H H' → Q (.ref p) H'
theorem plain_few {t : Tm} (h : t.plain) : t.nums.length ≤ 2 := by
  match t, h with
  | .v _, _ => simp [Tm.nums]
  | .z, _ => simp [Tm.nums]
  | .s (.v _), _ => simp [Tm.nums]
  | .f (.v _) (.v _), _ => simp [Tm.nums]
section
variable {P : Program} {w : World} {K : PySem.W.Frag} {mg : Str → Option Value} {base : Heap}
theorem scHeadVars : FnScope ["head", "found", "term"] ["head"] (defScope sHeadVars) := ⟨rfl, rfl, rfl, by decide +kernel, rfl, by decide +kernel, by decide +kernel⟩
theorem ok_headvars {f : Addr} {fd : FuncData} (F : Fun K "_head_variables" "_head_variables" sHeadVars f fd) (M : SameG mg) : FnOk P w K mg base CX0 1 f fd ["head"] spHeadVars := by
  refine F.ok scHeadVars (fun vs H Q E h => ?_) (fun cdv A outer s H vs Q E hr h => ?_)
  · obtain ⟨v, a, rfl, _⟩ := h
    rfl
  obtain ⟨v, a, rfl, ⟨p, xs, rfl, hp, A1⟩, ok, q⟩ := h
  refine ⟨_, pss_cons (ps_set (i := 1) scHeadVars.nd rfl (Or.inl rfl) (pe_lst pa_nil))
    (pss_cons (ps_for PassesOwn.never rfl (pi_tup (pe_slice sl_tup (pv 0) (po_some pe_int) po_none)) (pg_name (i := 2) scHeadVars.nd rfl (Or.inl rfl))
      (pss_one (ps_expr (pe_bm PySem.F.plainAttrs_list PySem.F.slot_list_extend PySem.F.type_list_extend mt_extendA (pv 1) (pa_cons (pe_ifExp (pt_val (pe_callB (id := "isinstance") call_isi (by rfl) M.isi (by decide +kernel) (pa_cons (pv 2) (pa_cons (pe_bltn (v := .ty "int") (by rfl) M.int (by decide +kernel) rfl) pa_nil))))
        (pe_lst (pa_cons (pv 2) pa_nil)) (pe_slice sl_tup (pv 2) (po_some pe_int) po_none)) pa_nil)))))
    (pss_one (ps_ret (pv 1)))), ?_⟩
  have big : (10000 : Nat) ≤ sizeLine := by decide
  have xl := A1.len
  have o2 := ok.two
  refine ⟨(by show 0 ≤ sizeLine; decide), fun m hm => ?_⟩
  have s1 := same_new hm (.lst ([] : List V))
  refine ⟨_, rfl, 1, rfl, p, _, rfl, .inl (.inl (s1 _ _ hp)), cut_part _ _, fun g hg => ?_⟩
  rw [cut_tail]
  have s2 := same_new hg (.tup xs)
  have gm : g ≠ m := (ne_of_none (upd_same : (upd H m (.lst ([] : List V))) m = some (.lst [])) hg).symm
  have hm2 := s2 _ _ (upd_same : (upd H m (.lst ([] : List V))) m = some (.lst []))
  have hg2 : (upd (upd H m (.lst ([] : List V))) g (.tup xs)) g = some (.tup xs) := upd_same
  have mN : H m = none := hm
  refine ⟨g, rfl, ⟨_, .inl (.inl hg2)⟩, for_tup (K := K) (a := g) (xs := xs) (fun i σ H2 => ∃ x2 : Option V, σ = [some (.ref p), some (.ref m), x2] ∧ H2 m = some (.lst ((hvars (a.ts.take i)).map V.int)) ∧ But m (upd (upd H m (.lst ([] : List V))) g (.tup xs)) H2) ⟨none, rfl, hm2, But.refl _ _⟩ (fun i σ H2 _ ⟨_, _, _, o⟩ => .inl (.inl (o _ _ hg2 gm))) ?_ ?_⟩
  · rintro i x σ H2 hi ⟨x2, rfl, h2, o2'⟩
    obtain ⟨t, ht, T⟩ := A1.get hi
    have tm := List.mem_of_getElem? ht
    have pl := ok.pl t tm
    have T2 : TmAt H2 x t := T.mono fun b zs z => o2' _ _ (s2 _ _ (s1 _ _ z)) (ne_of_none z mN)
    have tk : a.ts.take (i + 1) = a.ts.take i ++ [t] := by rw [List.take_add_one, ht]; rfl
    have hv : hvars (a.ts.take (i + 1)) = hvars (a.ts.take i) ++ t.nums := by rw [tk]; simp [hvars]
    have few : (hvars (a.ts.take i)).length ≤ 10 := by
      have each : ∀ l : List Tm, (∀ t ∈ l, t.plain) → (hvars l).length ≤ 2 * l.length := by
        intro l
        induction l with
        | nil => intro _; simp [hvars]
        | cons t l ih =>
          intro h
          have a1 := plain_few (h t (by simp))
          have a2 := ih fun u hu => h u (by simp [hu])
          simp only [hvars, List.flatMap_cons, List.length_append, List.length_cons] at a2 ⊢
          omega
      have := each (a.ts.take i) fun t ht => ok.pl t (List.mem_of_mem_take ht)
      rw [List.length_take] at this
      omega
    refine ⟨_, rfl, .inl ⟨rfl, _, .inl (.inl h2)⟩, ?_⟩
    have fin : ∀ (zs : List V) (H3 : Hp), zs = t.nums.map V.int → Same H2 H3 → ∃ x2 : Option V, ([some (.ref p), some (.ref m), some x] : List (Option V)) = [some (.ref p), some (.ref m), x2] ∧ (upd H3 m (.lst ((hvars (a.ts.take i)).map V.int ++ zs))) m = some (.lst ((hvars (a.ts.take (i + 1))).map V.int)) ∧ But m (upd (upd H m (.lst ([] : List V))) g (.tup xs)) (upd H3 m (.lst ((hvars (a.ts.take i)).map V.int ++ zs))) := by
      intro zs H3 e s3
      refine ⟨_, rfl, ?_, fun c o z nc => ?_⟩
      · rw [upd_same, e, hv, List.map_append]
      · rw [upd_ne nc]; exact s3 _ _ (o2' _ _ z nc)
    rcases T2.ty (K := K) with ⟨n, rfl, rfl⟩ | ⟨c, ys, rfl, hc, ty, no⟩
    · refine ⟨_, rfl, _, _, _, _, true, rfl, .ty "int", .base (.int n), kit_ii, true, rfl, iteT ?_⟩
      refine ⟨_, rfl, (by show 1 ≤ sizeLine; decide), fun l hl => ?_⟩
      have s3 := same_new hl (.lst [V.int n])
      exact .inl ⟨m, l, _, _, rfl, rfl, s3 _ _ h2, upd_same, by rw [List.length_map, List.length_singleton]; omega, fin [V.int n] _ rfl s3⟩
    · obtain ⟨a', ks, e, ha', hk, hks⟩ := T2.tupled no
      cases e
      refine ⟨_, rfl, _, _, _, _, false, rfl, .ty "int", ty, kit_ti, false, rfl, iteF ?_⟩
      refine ⟨_, rfl, 1, rfl, c, _, rfl, .inl (.inl ha'), cut_part _ _, fun l hl => ?_⟩
      rw [cut_tail]
      have s3 := same_new hl (.tup ks)
      have ek : ks = t.nums.map V.int := by
        match t, pl, hk, hks with
        | .z, _, hk, _ => exact List.eq_nil_iff_length_eq_zero.mpr hk
        | .v n, _, _, _ => exact absurd rfl (no n)
        | .s (.v n), _, hk, hks =>
          match ks, hk with
          | [k], _ =>
            have := hks 0 k (.v n) rfl rfl
            cases this
            rfl
        | .f (.v n) (.v n'), _, hk, hks =>
          match ks, hk with
          | [k, k'], _ =>
            have h1 := hks 0 k (.v n) rfl rfl
            have h2 := hks 1 k' (.v n') rfl rfl
            cases h1
            cases h2
            rfl
      have kl : ks.length ≤ 2 := by rw [ek, List.length_map]; exact plain_few pl
      exact .inr ⟨m, l, _, ks, rfl, rfl, s3 _ _ h2, .inl (.inl upd_same), by rw [List.length_map]; omega, fin ks _ ek s3⟩
  · rintro σ H2 ⟨x2, rfl, h2, o2'⟩
    rw [xl, List.take_of_length_le (Nat.le_refl _)] at h2
    exact ⟨_, rfl, q m H2 hm h2 fun c o z => o2' _ _ (s2 _ _ (s1 _ _ z)) (ne_of_none z mN)⟩
end
end Rp

set_option maxHeartbeats 8000000
namespace Rp
open PySem PySem.Spec PyProof.Rows L2 TL StX
def spIsHead : Sp := fun vs H Q _ => ∃ (v : V) (a : At), vs = [v] ∧ AtAt H v a ∧ HdOk a ∧ ∀ H', Same H H' → Q (.bl true) H'
theorem dp_ints {K : PySem.W.Frag} {H : Hp} : ∀ l : List Int, DpAll K H (l.map V.int) (l.map PyData.int)
  | [] => .nil
  | x :: l => .cons (.int x) (dp_ints l)
theorem ints_lay : ∀ l : List Int, PyData.canLayAll0 (l.map PyData.int) = true ∧ PyData.depthAll (l.map PyData.int) = 0
  | [] => ⟨rfl, rfl⟩
  | x :: l => by
    have ih := ints_lay l
    simp only [List.map_cons, PyData.canLayAll0, PyData.canLay0, PyData.depthAll, PyData.depth, ih.1, ih.2]
    exact ⟨rfl, rfl⟩
theorem ints_shaped (l : List Int) : SeqAt.shaped (.list (l.map PyData.int)) = true := by
  refine shaped_of ?_ ?_
  · show PyData.canLayAll0 _ = true
    exact (ints_lay l).1
  · show PyData.depthAll _ + 1 ≤ 64
    rw [(ints_lay l).2]
    decide
theorem eqv_ints : ∀ l : List Int, PyData.eqvAll (l.map PyData.int) (l.map PyData.int) = true
  | [] => eqvAll_nil
  | x :: l => by rw [List.map_cons, eqvAll_cons, eqv_int, eqv_ints l]; simp
theorem atAt_same {H H' : Hp} {v : V} {a : At} (h : AtAt H v a) (s : Same H H') : AtAt H' v a := by
  obtain ⟨p, xs, e, h1, h2⟩ := h
  exact ⟨p, xs, e, s _ _ h1, h2.mono fun b zs z => s _ _ z⟩
theorem hvars_few {a : At} (ok : HdOk a) : (hvars a.ts).length ≤ 4 := by
  have each : ∀ l : List Tm, (∀ t ∈ l, t.plain) → (hvars l).length ≤ 2 * l.length := by
    intro l
    induction l with
    | nil => intro _; simp [hvars]
    | cons t l ih =>
      intro h
      have a1 := plain_few (h t (by simp))
      have a2 := ih fun u hu => h u (by simp [hu])
      simp only [hvars, List.flatMap_cons, List.length_append, List.length_cons] at a2 ⊢
      omega
  have := each a.ts ok.pl
  have := ok.two
  omega
section
variable {P : Program} {w : World} {K : PySem.W.Frag} {mg : Str → Option Value} {base : Heap}
theorem scIsHead : FnScope ["thing", "found"] ["thing"] (defScope sIsHead) := ⟨rfl, rfl, rfl, by decide +kernel, rfl, by decide +kernel, by decide +kernel⟩
theorem ok_ishead {f fA fV : Addr} {fd dA dV : FuncData} (F : Fun K "_is_head" "_is_head" sIsHead f fd)
    (GA : FnOk P w K mg base CX0 4 fA dA ["thing"] spIsAtom) (kA : PySem.W.keepIn K (.ref fA) = true) (bA : Binds K dA ["thing"] []) (mA : mg "is_atom" = some (.ref fA))
    (GV : FnOk P w K mg base CX0 1 fV dV ["head"] spHeadVars) (kV : PySem.W.keepIn K (.ref fV) = true) (bV : Binds K dV ["head"] []) (mV : mg "_head_variables" = some (.ref fV)) (mList : mg "list" = none) (mRange : mg "range" = none) (mLen : mg "len" = none) : FnOk P w K mg base CX0 5 f fd ["thing"] spIsHead := by
  refine F.ok scIsHead (fun vs H Q E h => ?_) (fun cdv A outer s H vs Q E hr h => ?_)
  · obtain ⟨v, a, rfl, _⟩ := h
    rfl
  obtain ⟨v, a, rfl, A1, ok, q⟩ := h
  have r1 : Room 1 _ := hr.mono (by decide)
  refine ⟨_, pss_cons (ps_if (pt_not (pt_val (pe_call GA hr rfl mA kA bA .nil pass0 (pa_cons (pv 0) pa_nil)))) (pss_one (ps_ret pe_bl)) pss_nil)
    (pss_cons (ps_set (i := 1) scIsHead.nd rfl (Or.inl rfl) (pe_call GV r1 rfl mV kV bV .nil pass0 (pa_cons (pv 0) pa_nil)))
    (pss_one (ps_ret (pe_cmpR (op_eqD hr.units) (pv 1) (pe_listRg rfl (by rfl) mList (prg_1 (by rfl) mRange (pe_callB call_len_seq (by rfl) mLen PySem.boot_len (pa_cons (pv 1) pa_nil)))) (nomark _))))), ?_⟩
  refine ⟨_, rfl, v, a, rfl, A1, ok.toAtOk, fun H1 s1 => ⟨true, rfl, iteF ?_⟩⟩
  refine ⟨_, rfl, v, a, rfl, atAt_same A1 s1, ok, fun p H2 hp h2 s2 => ?_⟩
  have few := hvars_few ok
  have fl : (((hvars a.ts).map V.int).length : Int) ≤ 4 := by rw [List.length_map]; omega
  refine ⟨_, rfl, _, rfl, p, _, rfl, .inl (.inl (.inl h2)), _, rfl, RgOk.of_le (by decide) (by omega) (by decide) (by omega), fun g hg => ?_⟩
  have s3 := same_new hg (.lst (rgV 0 (((hvars a.ts).map V.int).length : Nat)))
  have e : rgV 0 (((hvars a.ts).map V.int).length : Nat) = (hvars a.ts).map V.int := by
    unfold rgV
    rw [List.length_map, show ((((hvars a.ts).length : Nat) : Int) - 0).toNat = (hvars a.ts).length by omega]
    conv => rhs; rw [ok.rng]
    rw [List.map_map]
    refine List.map_congr_left fun i _ => ?_
    show V.int (0 + (i : Int)) = V.int (Int.ofNat i)
    rw [Int.zero_add]
    rfl
  refine ⟨.list ((hvars a.ts).map PyData.int), .list ((hvars a.ts).map PyData.int), .lst (.inl (.inl (s3 _ _ h2))) (dp_ints _), .lst (.inl (.inl (by rw [upd_same, e]))) (dp_ints _), ints_shaped _, ints_shaped _, ?_⟩
  have ev : PyData.eqv (.list ((hvars a.ts).map PyData.int)) (.list ((hvars a.ts).map PyData.int)) = true := by
    simp only [PyData.eqv]
    exact eqv_ints _
  rw [ev]
  exact q _ (s1.trans (s2.trans s3))
end
end Rp

set_option maxHeartbeats 8000000
namespace Rp
open PySem PySem.Spec PyProof.Rows L2 TL StX
theorem walk_tup {K : PySem.W.Frag} {a : Addr} {xs : List V} {B : V → Hp → (Hp → Prop) → Prop} {H1 : Hp} {Done : Hp → Prop} (Pv : Nat → Hp → Prop) (h0 : Pv 0 H1) (hl : ∀ i H, i ≤ xs.length → Pv i H → SqT K H a xs)
    (hs : ∀ i x H, xs[i]? = some x → Pv i H → B x H (Pv (i + 1))) (hd : ∀ H, Pv xs.length H → Done H) :
    ∃ W : Nat → Nat → Hp → Prop, (∃ m, W 0 m H1) ∧ ∀ i m H, W i m H →
      ((Itt K a).stop i H ∧ Done H) ∨ ((Itt K a).go i H ∧ ∃ Nx : Hp → Prop, (∀ H', Nx H' → ∃ m', m' < m ∧ W (i + 1) m' H') ∧ ∀ x H', (Itt K a).yld i H x H' → B x H' Nx) := by
  refine ⟨fun i m H => m = xs.length - i ∧ i ≤ xs.length ∧ Pv i H, ⟨xs.length, by simp, Nat.zero_le _, h0⟩, ?_⟩
  rintro i m H ⟨rfl, hi, p⟩
  have q := hl i H hi p
  by_cases hlt : i < xs.length
  · refine .inr ⟨⟨xs, xs[i], q, by simp [hlt]⟩, Pv (i + 1), fun H' p' => ⟨xs.length - (i + 1), by omega, rfl, hlt, p'⟩, fun x H' y => ?_⟩
    obtain ⟨e, y⟩ := y
    subst e
    exact hs i x _ (y xs q) p
  · have e : i = xs.length := by omega
    subst e
    exact .inl ⟨⟨xs, q, Nat.le_refl _⟩, hd H p⟩
def AtsAt (H : Hp) : List V → List At → Prop
  | [], [] => True
  | v :: xs, a :: as => AtAt H v a ∧ AtsAt H xs as
  | _, _ => False
theorem AtsAt.len {H : Hp} : ∀ {xs : List V} {as : List At}, AtsAt H xs as → xs.length = as.length
  | [], [], _ => rfl
  | _ :: _, _ :: _, h => congrArg (· + 1) (AtsAt.len h.2)
theorem AtsAt.same {H H' : Hp} (s : Same H H') : ∀ {xs : List V} {as : List At}, AtsAt H xs as → AtsAt H' xs as
  | [], [], _ => trivial
  | _ :: _, _ :: _, h => ⟨atAt_same h.1 s, AtsAt.same s h.2⟩
theorem AtsAt.get {H : Hp} : ∀ {xs : List V} {as : List At} {i : Nat} {x : V}, AtsAt H xs as → xs[i]? = some x → ∃ a, as[i]? = some a ∧ AtAt H x a
  | v :: xs, a :: as, 0, x, h, e => ⟨a, rfl, by have : v = x := by simpa using e
                                                subst this; exact h.1⟩
  | _ :: xs, _ :: as, i + 1, x, h, e => by simpa using AtsAt.get h.2 (by simpa using e)
theorem AtsAt.append {H : Hp} : ∀ {xs ys : List V} {as bs : List At}, AtsAt H xs as → AtsAt H ys bs → AtsAt H (xs ++ ys) (as ++ bs)
  | [], _, [], _, _, h => h
  | _ :: xs, _, _ :: as, _, h, h' => ⟨h.1, AtsAt.append h.2 h'⟩
structure BodyOk (ks : List Int) (as : List At) : Prop where
  few : as.length ≤ 3
  ok : ∀ a ∈ as, AtOk 50 a
  vs : ∀ a ∈ as, ∀ t ∈ a.ts, ∃ i ∈ ks, t = Tm.v i
def spIsBody : Sp := fun vs H Q _ => ∃ (p q : Addr) (xs : List V) (as : List At) (ks : List Int), vs = [.ref p, .ref q] ∧ H p = some (.tup xs) ∧ AtsAt H xs as ∧ H q = some (.lst (ks.map V.int)) ∧ BodyOk ks as ∧ ∀ H', Same H H' → Q (.bl true) H'
theorem inV_int {i : Int} {ks : List Int} (h : i ∈ ks) : inV (.int i) (ks.map V.int) = true := by
  unfold inV
  rw [List.any_eq_true]
  exact ⟨.int i, List.mem_map.mpr ⟨i, h, rfl⟩, by simp [eqV]⟩
section
variable {P : Program} {w : World} {K : PySem.W.Frag} {mg : Str → Option Value} {base : Heap}
theorem scIsBody : FnScope ["thing", "known", "atom", "term"] ["thing", "known"] (defScope sIsBody) := ⟨rfl, rfl, rfl, by decide +kernel, rfl, by decide +kernel, by decide +kernel⟩
theorem ok_isbody {f fA : Addr} {fd dA : FuncData} {t3 : Tok} (F : Fun K "_is_body" "_is_body" sIsBody f fd)
    (GA : FnOk P w K mg base CX0 4 fA dA ["thing"] spIsAtom) (kA : PySem.W.keepIn K (.ref fA) = true) (bA : Binds K dA ["thing"] []) (mA : mg "is_atom" = some (.ref fA))
    (mB : mg "MOST_BODY" = some (.int 3 t3)) (M : SameG mg) : FnOk P w K mg base CX0 5 f fd ["thing", "known"] spIsBody := by
  refine F.ok scIsBody (fun vs H Q E h => ?_) (fun cdv A outer s H vs Q E hr h => ?_)
  · obtain ⟨p, q, xs, as, ks, rfl, _⟩ := h
    rfl
  obtain ⟨p, q, xs, as, ks, rfl, hp, A1, hq, ok, fin⟩ := h
  refine ⟨_, pss_cons (ps_if (PW.pt (pw_or (pt_not (pt_val (pe_callB (id := "isinstance") call_isi (by rfl) M.isi (by decide +kernel) (pa_cons (pv 0) (pa_cons (pe_bltn (v := .ty "tuple") (by rfl) M.tuple (by decide +kernel) rfl) pa_nil)))))
      (pw_or (pt_cmpR op_gt (pe_callB call_len_seq (by rfl) M.len PySem.boot_len (pa_cons (pv 0) pa_nil)) (pe_glob (v := .int 3) (by rfl) mB ⟨_, rfl⟩) (nomark _))
        (pw_or1 (pt_not (pt_val (pe_callB (cr_all rfl) (by rfl) M.all (by decide +kernel) (pa_cons (pe_lc (own := [("atom", 2)]) (g := gName 2) (tt := tYes) (te := tCall spIsAtom [] E0 (tCons (tVar 2) tNil)) rfl scIsBody.nd
          (pi_tup (pv 0)) (blkOk_by (N := ["thing", "known", "atom", "term"]) (sc := defScope sIsBody) (by decide +kernel)) (fun _ _ _ _ _ => pg_name (i := 2) scIsBody.nd rfl (Or.inl rfl))
          (fun _ _ _ _ _ => pts_nil) (fun _ _ _ _ _ => pe_call GA hr (by rfl) mA kA bA .nil pass0 (pa_cons (pv 2) pa_nil))) pa_nil)))))))) (pss_one (ps_ret pe_bl)) pss_nil)
    (pss_one (ps_ret (pe_callB (cr_all rfl) (by rfl) M.all (by decide +kernel) (pa_cons (pe_lc2 (own := [("atom", 2), ("term", 3)]) (vs1 := [3]) (g := gName 2) (tt := tYes) (wi1 := iTup K (tSl (rSlT K) (tVar 2) (tPart (tC (.int 1))) tNoPart)) (g1 := gName 3) (tt1 := tYes) (te := tOp (rIn K false) (tVar 3) (tVar 1)) rfl scIsBody.nd
          (pi_tup (pv 0)) (blkOk_by (N := ["thing", "known", "atom", "term"]) (sc := defScope sIsBody) (by decide +kernel)) (by decide) (fun _ _ _ _ _ => pg_name (i := 2) scIsBody.nd rfl (Or.inl rfl)) (fun _ _ _ _ _ => pts_nil)
          (fun _ _ _ _ _ => pi_tup (pe_slice sl_tup (pv 2) (po_some pe_int) po_none)) (fun _ _ _ _ _ => pg_name (i := 3) scIsBody.nd rfl (Or.inl rfl)) (fun _ _ _ _ _ => pts_nil)
          (fun _ _ _ _ _ => pe_cmpR op_in_seq (pv 3) (pv 1) (by rfl))) pa_nil)))), ?_⟩
  have big : (10000 : Nat) ≤ sizeLine := by decide
  have xl := A1.len
  have o3 := ok.few
  refine ⟨_, rfl, _, _, _, _, true, rfl, .ty "tuple", .base (.tup hp), kit_ty (by decide +kernel), true, rfl, iteF ?_⟩
  refine ⟨_, rfl, p, xs, rfl, .inr (.inl (.inl hp)), _, _, rfl, rfl, false, congrArg V.bl (decide_eq_false (by omega)), iteF ?_⟩
  refine ⟨_, rfl, p, rfl, ⟨_, .inl (.inl hp)⟩, fun D hD => lc_tup (K := K) (a := p) (xs := xs) (fun i H2 => H2 D = some (.lst (List.replicate i (V.bl true))) ∧ Same H H2) ⟨upd_same, same_new hD _⟩ (fun i H2 _ h => .inl (.inl (h.2 _ _ hp))) ?_ ?_⟩
  · rintro i x H2 hi ⟨h2, s3⟩
    obtain ⟨a, ha, T⟩ := A1.get hi
    have li : i < xs.length := (List.getElem?_eq_some_iff.mp hi).1
    refine ⟨rfl, ?_⟩
    refine ⟨_, rfl, x, a, rfl, atAt_same T s3, ok.ok a (List.mem_of_getElem? ha), fun H3 s4 => ⟨_, s4 _ _ h2, ?_, ?_, ?_⟩⟩
    · rw [List.length_replicate]; omega
    · rw [upd_same, List.replicate_succ']
    · intro c o z
      rw [upd_ne (ne_of_none z hD)]
      exact s4 _ _ (s3 _ _ z)
  · rintro H2 ⟨h2, s2⟩
    have e : ∀ n, (List.replicate n true).all id = true := fun n => by rw [List.all_eq_true]; intro x hx; rw [List.eq_of_mem_replicate hx]; rfl
    refine ⟨D, List.replicate _ true, rfl, .inl (.inl (by rw [List.map_replicate]; exact h2)), ?_⟩
    rw [e]
    refine ⟨true, rfl, iteF ?_⟩
    refine ⟨_, rfl, p, rfl, ⟨_, .inl (.inl (s2 _ _ hp))⟩, fun D2 hD2 => walk_tup (K := K) (a := p) (xs := xs) (fun i H3 => ∃ n, n ≤ 2 * i ∧ H3 D2 = some (.lst (List.replicate n (V.bl true))) ∧ Same H H3) ⟨0, Nat.le_refl _, upd_same, s2.trans (same_new hD2 _)⟩ (fun i H3 _ ⟨_, _, _, h⟩ => .inl (.inl (h _ _ hp))) ?_ ?_⟩
    · rintro i x H3 hi ⟨n, hn, h3, s3⟩
      obtain ⟨a, ha, T⟩ := A1.get hi
      have li : i < xs.length := (List.getElem?_eq_some_iff.mp hi).1
      have am := List.mem_of_getElem? ha
      have o2 := (ok.ok a am).two
      obtain ⟨b, ys, rfl, hb, AT⟩ := atAt_same T s3
      have yl := AT.len
      refine ⟨rfl, ?_⟩
      refine ⟨_, rfl, 1, rfl, b, _, rfl, .inl (.inl hb), cut_part _ _, fun g hg => ?_⟩
      rw [cut_tail]
      have s4 := same_new hg (.tup ys)
      have gD : g ≠ D2 := (ne_of_none h3 hg).symm
      have qD : q ≠ D2 := ne_of_none (s2 _ _ hq) hD2
      refine ⟨g, rfl, ⟨_, .inl (.inl upd_same)⟩, ?_⟩
      refine walk_tup (K := K) (a := g) (xs := ys) (fun j H4 => H4 D2 = some (.lst (List.replicate (n + j) (V.bl true))) ∧ But D2 (upd H3 g (.tup ys)) H4) ⟨s4 _ _ h3, But.refl _ _⟩ (fun j H4 _ h => .inl (.inl (h.2 _ _ upd_same gD))) ?_ ?_
      · rintro j y H4 hj ⟨h4, s5⟩
        obtain ⟨t, ht, TT⟩ := AT.get hj
        have lj : j < ys.length := (List.getElem?_eq_some_iff.mp hj).1
        obtain ⟨i0, hi0, rfl⟩ := ok.vs a am t (List.mem_of_getElem? ht)
        obtain rfl : y = .int i0 := by cases TT; rfl
        refine ⟨rfl, ?_⟩
        refine ⟨_, rfl, _, rfl, q, _, rfl, .inl (.inl (.inl (s5 _ _ (s4 _ _ (s3 _ _ hq)) qD))), rfl, by simp [flatV], _, h4, ?_, ?_, ?_⟩
        · rw [List.length_replicate]; omega
        · rw [upd_same, if_neg Bool.false_ne_true, inV_int hi0, ← List.replicate_succ']; rfl
        · intro c o z hc
          rw [upd_ne hc]
          exact s5 _ _ z hc
      · rintro H4 ⟨h4, s5⟩
        refine ⟨n + ys.length, by omega, h4, fun c o z => s5 _ _ (s4 _ _ (s3 _ _ z)) (ne_of_none (s2 _ _ z) hD2)⟩
    · rintro H3 ⟨n, hn, h3, s3⟩
      refine ⟨D2, List.replicate n true, rfl, .inl (.inl (by rw [List.map_replicate]; exact h3)), ?_⟩
      rw [e]
      exact fin H3 s3
end
end Rp

set_option maxHeartbeats 8000000
namespace Rp
open PySem PySem.Spec PyProof.Rows L2 TL StX
structure Ru where
  hd : At
  bd : List At
def RuAt (H : Hp) (v : V) (r : Ru) : Prop := ∃ (p q : Addr) (vh : V) (xs : List V), v = .ref p ∧ H p = some (.tup [vh, .ref q]) ∧ AtAt H vh r.hd ∧ H q = some (.tup xs) ∧ AtsAt H xs r.bd
structure RuOk (r : Ru) : Prop where
  hd : HdOk r.hd
  bd : BodyOk (hvars r.hd.ts) r.bd
theorem RuAt.same {H H' : Hp} {v : V} {r : Ru} (h : RuAt H v r) (s : Same H H') : RuAt H' v r := by
  obtain ⟨p, q, vh, xs, e, h1, h2, h3, h4⟩ := h
  exact ⟨p, q, vh, xs, e, s _ _ h1, atAt_same h2 s, s _ _ h3, h4.same s⟩
def spIsRule : Sp := fun vs H Q _ => ∃ (v : V) (r : Ru), vs = [v] ∧ RuAt H v r ∧ RuOk r ∧ ∀ H', Same H H' → Q (.bl true) H'
section
variable {P : Program} {w : World} {K : PySem.W.Frag} {mg : Str → Option Value} {base : Heap}
theorem scIsRule : FnScope ["thing"] ["thing"] (defScope sIsRule) := ⟨rfl, rfl, rfl, by decide +kernel, rfl, by decide +kernel, by decide +kernel⟩
theorem ok_isrule {f fH fV fB : Addr} {fd dH dV dB : FuncData} (F : Fun K "is_rule" "is_rule" sIsRule f fd)
    (GH : FnOk P w K mg base CX0 5 fH dH ["thing"] spIsHead) (kH : PySem.W.keepIn K (.ref fH) = true) (bH : Binds K dH ["thing"] []) (mH : mg "_is_head" = some (.ref fH))
    (GV : FnOk P w K mg base CX0 1 fV dV ["head"] spHeadVars) (kV : PySem.W.keepIn K (.ref fV) = true) (bV : Binds K dV ["head"] []) (mV : mg "_head_variables" = some (.ref fV))
    (GB : FnOk P w K mg base CX0 5 fB dB ["thing", "known"] spIsBody) (kB : PySem.W.keepIn K (.ref fB) = true) (bB : Binds K dB ["thing", "known"] []) (mB : mg "_is_body" = some (.ref fB)) (M : SameG mg) : FnOk P w K mg base CX0 6 f fd ["thing"] spIsRule := by
  refine F.ok scIsRule (fun vs H Q E h => ?_) (fun cdv A outer s H vs Q E hr h => ?_)
  · obtain ⟨v, r, rfl, _⟩ := h
    rfl
  obtain ⟨v, r, rfl, ⟨p, q, vh, xs, rfl, hp, A1, hq, A2⟩, ok, fin⟩ := h
  have r1 : Room 1 _ := hr.mono (by decide)
  have r5 : Room 5 _ := hr.mono (by decide)
  refine ⟨_, pss_cons (ps_if (PW.pt (pw_or (pt_not (pt_val (pe_callB (id := "isinstance") call_isi (by rfl) M.isi (by decide +kernel) (pa_cons (pv 0) (pa_cons (pe_bltn (v := .ty "tuple") (by rfl) M.tuple (by decide +kernel) rfl) pa_nil)))))
      (pw_or (pt_cmpR op_ne (pe_callB call_len_seq (by rfl) M.len PySem.boot_len (pa_cons (pv 0) pa_nil)) pe_int (nomark _))
        (pw_or1 (pt_not (pt_val (pe_call GH r5 rfl mH kH bH .nil pass0 (pa_cons (pe_ix ix_tup (pv 0) pe_int (fun _ _ => rfl)) pa_nil)))))))) (pss_one (ps_ret pe_bl)) pss_nil)
    (pss_one (ps_ret (pe_call GB r5 rfl mB kB bB .nil pass0 (pa_cons (pe_ix ix_tup (pv 0) pe_int (fun _ _ => rfl)) (pa_cons (pe_call GV r1 rfl mV kV bV .nil pass0 (pa_cons (pe_ix ix_tup (pv 0) pe_int (fun _ _ => rfl)) pa_nil)) pa_nil))))), ?_⟩
  refine ⟨_, rfl, _, _, _, _, true, rfl, .ty "tuple", .base (.tup hp), kit_ty (by decide +kernel), true, rfl, iteF ?_⟩
  refine ⟨_, rfl, p, _, rfl, .inr (.inl (.inl hp)), rfl, false, rfl, iteF ?_⟩
  refine ⟨_, rfl, p, _, _, _, rfl, rfl, .inl (.inl hp), at_of (j := 0) rfl rfl, vh, r.hd, rfl, A1, ok.hd, fun H1 s1 => ⟨true, rfl, iteF ?_⟩⟩
  refine ⟨_, rfl, p, _, _, _, rfl, rfl, .inl (.inl (s1 _ _ hp)), at_of (j := 1) rfl rfl, _, rfl, p, _, _, _, rfl, rfl, .inl (.inl (s1 _ _ hp)), at_of (j := 0) rfl rfl, vh, r.hd, rfl, atAt_same A1 s1, ok.hd, fun d H2 hd h2 s2 => ?_⟩
  exact ⟨q, d, xs, r.bd, _, rfl, s2 _ _ (s1 _ _ hq), (A2.same s1).same s2, h2, ok.bd, fun H3 s3 => fin H3 (s1.trans (s2.trans s3))⟩
end
end Rp

set_option maxHeartbeats 8000000
namespace Rp
open PySem PySem.Spec PyProof.Rows L2 TL StX
def btxt (as : List At) : Str := Txt.join ", " (as.map atxt)
def rtxt (r : Ru) : Str := if r.bd = [] then atxt r.hd else atxt r.hd ++ " if " ++ Txt.join ", " (r.bd.map atxt)
def spRuleText : Sp := fun vs H Q _ => ∃ (v : V) (r : Ru), vs = [v] ∧ RuAt H v r ∧ RuOk r ∧ ∀ H', Same H H' → Q (.str (rtxt r)) H'
structure AtsOk (as : List At) : Prop where
  few : as.length ≤ 6
  ok : ∀ a ∈ as, AtOk 50 a
def spAtomsText : Sp := fun vs H Q _ => ∃ (q : Addr) (xs : List V) (as : List At), vs = [.ref q] ∧ H q = some (.tup xs) ∧ AtsAt H xs as ∧ AtsOk as ∧ ∀ H', Same H H' → Q (.str (btxt as)) H'
theorem BodyOk.ats {ks : List Int} {as : List At} (ok : BodyOk ks as) : AtsOk as := ⟨by have := ok.few; omega, ok.ok⟩
theorem btxt_sum {as : List At} (ok : AtsOk as) : ((as.map atxt).map (·.length)).sum ≤ 500 * as.length := by
  have each : ∀ l : List At, (∀ a ∈ l, AtOk 50 a) → ((l.map atxt).map (·.length)).sum ≤ 500 * l.length := by
    intro l
    induction l with
    | nil => intro _; simp
    | cons a l ih =>
      intro h
      have h1 := atxt_len (h a (by simp))
      have h2 := ih fun b hb => h b (by simp [hb])
      simp only [List.map_cons, List.sum_cons, List.length_cons] at h2 ⊢
      omega
  exact each as ok.ok
theorem btxt_len {as : List At} (ok : AtsOk as) : (btxt as).length ≤ 3012 := by
  unfold btxt
  have jl := StrLaws.join_length_le ", " (as.map atxt)
  have l1 : (", " : Str).length = 2 := by decide +kernel
  rw [l1, List.length_map] at jl
  have h1 := btxt_sum ok
  have h2 := ok.few
  rw [join_eq]
  omega
section
variable {P : Program} {w : World} {K : PySem.W.Frag} {mg : Str → Option Value} {base : Heap}
theorem scAtomsText : FnScope ["atoms", "atom"] ["atoms"] (defScope sAtomsText) := ⟨rfl, rfl, rfl, by decide +kernel, rfl, by decide +kernel, by decide +kernel⟩
theorem ok_atomstext {f fA : Addr} {fd dA : FuncData} (F : Fun K "atoms_text" "atoms_text" sAtomsText f fd)
    (GA : FnOk P w K mg base CX0 5 fA dA ["atom"] spAtomText) (kA : PySem.W.keepIn K (.ref fA) = true) (bA : Binds K dA ["atom"] []) (mA : mg "atom_text" = some (.ref fA)) : FnOk P w K mg base CX0 6 f fd ["atoms"] spAtomsText := by
  refine F.ok scAtomsText (fun vs H Q E h => ?_) (fun cdv A outer s H vs Q E hr h => ?_)
  · obtain ⟨q, xs, as, rfl, _⟩ := h
    rfl
  obtain ⟨q, xs, as, rfl, hq, A2, ok, fin⟩ := h
  refine ⟨_, pss_one (ps_ret (pe_bm PySem.F.plainAttrs_str PySem.F.slot_str_join PySem.F.type_str_join mt_join pe_str (pa_cons
      (pe_lc (own := [("atom", 1)]) (g := gName 1) (tt := tYes) (te := tCall spAtomText [] E0 (tCons (tVar 1) tNil)) rfl scAtomsText.nd (pi_tup (pv 0)) (blkOk_by (N := ["atoms", "atom"]) (sc := defScope sAtomsText) (by decide +kernel)) (fun _ _ _ _ _ => pg_name (i := 1) scAtomsText.nd rfl (Or.inl rfl))
        (fun _ _ _ _ _ => pts_nil) (fun _ _ _ _ _ => pe_call GA hr (by rfl) mA kA bA .nil pass0 (pa_cons (pv 1) pa_nil))) pa_nil))), ?_⟩
  have big : (10000 : Nat) ≤ sizeLine := by decide
  have xl := A2.len
  have o3 := ok.few
  refine ⟨rfl, _, rfl, q, rfl, ⟨_, .inl (.inl hq)⟩, fun D hD => lc_tup (K := K) (a := q) (xs := xs) (fun i H2 => H2 D = some (.lst (((as.take i).map atxt).map V.str)) ∧ Same H H2) ⟨upd_same, same_new hD _⟩ (fun i H2 _ h => .inl (.inl (h.2 _ _ hq))) ?_ ?_⟩
  · rintro i x H2 hi ⟨h2, s3⟩
    obtain ⟨a, ha, T⟩ := A2.get hi
    have li : i < as.length := (List.getElem?_eq_some_iff.mp ha).1
    refine ⟨rfl, ?_⟩
    refine ⟨_, rfl, x, a, rfl, atAt_same T s3, ok.ok a (List.mem_of_getElem? ha), fun H3 s4 => ⟨_, s4 _ _ h2, ?_, ?_, ?_⟩⟩
    · rw [List.length_map, List.length_map, List.length_take]; omega
    · have tk : as.take (i + 1) = as.take i ++ [a] := by rw [List.take_add_one, ha]; rfl
      rw [upd_same, tk, List.map_append, List.map_append]; rfl
    · intro c o z
      rw [upd_ne (ne_of_none z hD)]
      exact s4 _ _ (s3 _ _ z)
  · rintro H2 ⟨h2, s2⟩
    rw [show as.take xs.length = as from by rw [xl]; exact List.take_length] at h2
    have bs := btxt_sum ok
    have l2 : (", " : Str).length = 2 := by decide +kernel
    exact ⟨", ", D, as.map atxt, rfl, rfl, .inl (.inl (.inl h2)), by rw [l2, List.length_map]; omega, fin H2 s2⟩
theorem scRuleText : FnScope ["rule", "head", "body"] ["rule"] (defScope sRuleText) := ⟨rfl, rfl, rfl, by decide +kernel, rfl, by decide +kernel, by decide +kernel⟩
theorem ok_ruletext {f fA fB : Addr} {fd dA dB : FuncData} (F : Fun K "rule_text" "rule_text" sRuleText f fd)
    (GA : FnOk P w K mg base CX0 5 fA dA ["atom"] spAtomText) (kA : PySem.W.keepIn K (.ref fA) = true) (bA : Binds K dA ["atom"] []) (mA : mg "atom_text" = some (.ref fA))
    (GB : FnOk P w K mg base CX0 6 fB dB ["atoms"] spAtomsText) (kB : PySem.W.keepIn K (.ref fB) = true) (bB : Binds K dB ["atoms"] []) (mB : mg "atoms_text" = some (.ref fB)) : FnOk P w K mg base CX0 7 f fd ["rule"] spRuleText := by
  refine F.ok scRuleText (fun vs H Q E h => ?_) (fun cdv A outer s H vs Q E hr h => ?_)
  · obtain ⟨v, r, rfl, _⟩ := h
    rfl
  obtain ⟨v, r, rfl, ⟨p, q, vh, xs, rfl, hp, A1, hq, A2⟩, ok, fin⟩ := h
  have r5 : Room 5 _ := hr.mono (by decide)
  refine ⟨_, pss_cons (ps_asg (pv 0) (pg_tup (by rfl) (pgs_cons (pg_name (i := 1) scRuleText.nd rfl (Or.inl rfl)) (pgs_cons (pg_name (i := 2) scRuleText.nd rfl (Or.inl rfl)) pgs_nil))))
    (pss_cons (ps_if (pt_not (pt_truth (pv 2) (by intro _; rfl))) (pss_one (ps_ret (pe_call GA r5 rfl mA kA bA .nil pass0 (pa_cons (pv 1) pa_nil)))) pss_nil)
    (pss_one (ps_ret (pe_joined (.cons (pe_fmt (pe_call GA r5 rfl mA kA bA .nil pass0 (pa_cons (pv 1) pa_nil))) (.cons pe_str (.cons (pe_fmt (pe_call GB hr rfl mB kB bB .nil pass0 (pa_cons (pv 2) pa_nil))) .nil))))))), ?_⟩
  have big : (10000 : Nat) ≤ sizeLine := by decide
  have xl := A2.len
  have hl := atxt_len ok.hd.toAtOk
  have bl := btxt_len ok.bd.ats
  have li4 : (" if " : Str).length = 4 := by decide +kernel
  refine ⟨_, rfl, p, _, rfl, .inl (.inl hp), rfl, _, _, rfl, _, _, rfl, rfl, ?_⟩
  refine ⟨_, rfl, _, .inr (.inl ⟨_, .inl (.inl hq), rfl⟩), ?_⟩
  cases hb : r.bd with
  | nil =>
    rw [hb] at xl
    obtain rfl : xs = [] := List.length_eq_zero_iff.mp xl
    refine iteT ?_
    refine ⟨_, rfl, vh, r.hd, rfl, A1, ok.hd.toAtOk, fun H1 s1 => ?_⟩
    have e : rtxt r = atxt r.hd := if_pos hb
    rw [← e]
    exact fin H1 s1
  | cons a0 as0 =>
    have ne : r.bd ≠ [] := by rw [hb]; exact List.cons_ne_nil _ _
    have xn : xs ≠ [] := by intro z; rw [z, hb] at xl; simp at xl
    obtain ⟨x0, xs0, rfl⟩ : ∃ x0 xs0, xs = x0 :: xs0 := by
      cases xs with
      | nil => exact absurd rfl xn
      | cons x0 xs0 => exact ⟨x0, xs0, rfl⟩
    refine iteF ?_
    have e : rtxt r = atxt r.hd ++ " if " ++ btxt r.bd := if_neg ne
    refine ⟨_, rfl, vh, r.hd, rfl, A1, ok.hd.toAtOk, fun H3 s3 => .inl ⟨_, rfl, by omega, ?_⟩⟩
    refine ⟨_, rfl, ?_, _, rfl, ?_, _, rfl, q, _, r.bd, rfl, s3 _ _ hq, A2.same s3, ok.bd.ats, fun H4 s4 => .inl ⟨_, rfl, by omega, _, rfl, ?_, ?_⟩⟩
    · rw [Str.empty_append]; omega
    · rw [Str.empty_append, slen]; omega
    · rw [Str.empty_append, slen, slen]; omega
    · rw [Str.empty_append, ← e]
      exact fin H4 (s3.trans s4)
end
end Rp

set_option maxHeartbeats 8000000
/-! Texts cut at a separator of more than one sign. -/
namespace Rp
open PySem PySem.Spec PyProof.Rows L2 TL StX
/-- each s has a sign behind it, and not n -/
def Fol (s n : Nat) : List Nat → Prop
  | [] => True
  | [c] => c ≠ s
  | c :: d :: r => (c = s → d ≠ n) ∧ Fol s n (d :: r)
theorem fol_free {s n : Nat} : ∀ {p : List Nat}, s ∉ p → Fol s n p
  | [], _ => trivial
  | [c], h => fun e => h (by simp [e])
  | c :: d :: r, h => ⟨fun e => absurd (by simp [e] : s ∈ c :: d :: r) h, fol_free fun z => h (List.mem_cons_of_mem _ z)⟩
theorem fol_append {s n : Nat} : ∀ {p q : List Nat}, Fol s n p → Fol s n q → Fol s n (p ++ q)
  | [], _, _, h => h
  | [c], [], h, _ => h
  | [c], d :: q, h, h' => ⟨fun e => absurd e h, h'⟩
  | c :: d :: r, q, h, h' => ⟨h.1, fol_append (p := d :: r) h.2 h'⟩
theorem fol_cons {s n c : Nat} {q : List Nat} (hc : c ≠ n) (h : Fol s n (c :: q)) : Fol s n (s :: c :: q) := ⟨fun _ => hc, h⟩
theorem fol_pre {s n : Nat} {S q : List Nat} : ∀ {p : List Nat}, Fol s n p → ∀ i, i < p.length → pre (s :: n :: S) ((p ++ q).drop i) = false
  | [c], h, 0, _ => pre_of_head _ _ h
  | c :: d :: r, h, 0, _ => by
    by_cases e : c = s
    · have hd := h.1 e
      subst e
      show (List.take (c :: n :: S).length (c :: d :: (r ++ q)) == c :: n :: S) = false
      rw [beq_eq_false_iff_ne]
      intro z
      rw [List.length_cons, List.length_cons, List.take_succ_cons, List.take_succ_cons] at z
      exact hd (by injection z with _ z; injection z)
    · exact pre_of_head _ _ e
  | c :: d :: r, h, i + 1, hi => by
    have := fol_pre (S := S) (q := q) h.2 i (by simpa using hi)
    simpa using this
  | [c], h, i + 1, hi => by simp at hi
theorem partition_fol {y : Str} {s n : Nat} {S : List Nat} (ey : tl y = s :: n :: S) {a b : Str} (h : Fol s n (tl a)) : Txt.partition (a ++ y ++ b) y = (a, y, b) := by
  rw [partition_par _ y (by rw [ey]; simp), tl_append, tl_append, List.append_assoc, ey, par_part (by simp) (fol_pre h)]
  show ((⟨([] ++ tl a).toArray⟩ : Str), y, (⟨(tl b).toArray⟩ : Str)) = _
  rw [List.nil_append, mk_tl, mk_tl]
theorem fol_pre0 {s n : Nat} {S : List Nat} {p : List Nat} (h : Fol s n p) : ∀ i, i < p.length → pre (s :: n :: S) (p.drop i) = false := fun i hi => by
  have := fol_pre (S := S) (q := []) h i hi
  rwa [List.append_nil] at this
theorem partition_nofol {y : Str} {s n : Nat} {S : List Nat} (ey : tl y = s :: n :: S) {a : Str} (h : Fol s n (tl a)) : Txt.partition a y = (a, Str.empty, Str.empty) := by
  rw [partition_par _ y (by rw [ey]; simp), ey, par_none (fol_pre0 h)]
theorem spl_fol {s n : Nat} {S : List Nat} : ∀ {parts : List (List Nat)}, parts ≠ [] → (∀ p ∈ parts, Fol s n p) → spl (s :: n :: S) 0 [] (joinL (s :: n :: S) parts) = parts
  | [], h, _ => absurd rfl h
  | [p], _, hp => by
    show spl (s :: n :: S) 0 [] p = [p]
    rw [spl_last (fol_pre0 (hp p (List.mem_singleton.mpr rfl))), List.nil_append]
  | p :: q :: r, _, hp => by
    show spl (s :: n :: S) 0 [] (p ++ (s :: n :: S ++ joinL (s :: n :: S) (q :: r))) = p :: q :: r
    rw [spl_part (by simp) (fol_pre (hp p (List.mem_cons_self ..))), List.nil_append, spl_fol (by simp) fun z hz => hp z (List.mem_cons_of_mem _ hz)]
theorem split_fol {y : Str} {s n : Nat} {S : List Nat} (ey : tl y = s :: n :: S) (hk : y.cps.all (· < 256) = true) {parts : List Str} (hne : parts ≠ []) (hp : ∀ p ∈ parts, Fol s n (tl p)) :
    Txt.split (Txt.join y parts) y = parts := by
  refine map_tl_inj ?_
  rw [split_spl _ y (by rw [ey]; simp) (kind_ok hk), join_eq, tl_join, ey]
  refine spl_fol (fun e => hne (List.map_eq_nil_iff.mp e)) fun p h => ?_
  obtain ⟨z, hz, rfl⟩ := List.mem_map.mp h
  exact hp z hz
/-! The texts of terms and atoms. -/
theorem txt_head : ∀ t : Tm, ∃ c q, tl t.txt = c :: q ∧ c ≠ 105 ∧ c ≠ 32
  | .v n => ⟨120, tl (Str.ofString (toString n)), by show tl (("x" : Str) ++ Str.ofString (toString n)) = _; rw [tl_append, t_x]; rfl, by decide, by decide⟩
  | .z => ⟨48, [], t_0, by decide, by decide⟩
  | .s t => ⟨115, tl ("(" ++ Txt.join "," [t.txt] ++ ")"), by show tl (("s" : Str) ++ "(" ++ Txt.join "," [t.txt] ++ ")") = _; simp only [tl_append, t_s]; rfl, by decide, by decide⟩
  | .f l r => ⟨102, tl ("(" ++ Txt.join "," [l.txt, r.txt] ++ ")"), by show tl (("f" : Str) ++ "(" ++ Txt.join "," [l.txt, r.txt] ++ ")") = _; simp only [tl_append, t_f]; rfl, by decide, by decide⟩
theorem txt_fol : ∀ (t : Tm), t.small → Fol 44 32 (tl t.txt)
  | .v n, h => by
    show Fol 44 32 (tl (("x" : Str) ++ Str.ofString (toString n)))
    rw [tl_append, t_x, tl_int (h n (by simp [Tm.nums])).1]
    refine fol_free fun hd => ?_
    rcases List.mem_append.mp hd with hd | hd
    · simp at hd
    · have := numL_small _ _ hd; omega
  | .z, h => by
    show Fol 44 32 (tl ("0" : Str))
    rw [t_0]
    exact fol_free (by simp)
  | .s t, h => by
    show Fol 44 32 (tl (("s" : Str) ++ "(" ++ Txt.join "," [t.txt] ++ ")"))
    rw [join1, tl_append, tl_append, tl_append, t_s, t_open, t_close]
    exact fol_append (fol_append (fol_free (by simp)) (txt_fol t h)) (fol_free (by simp))
  | .f l r, h => by
    show Fol 44 32 (tl (("f" : Str) ++ "(" ++ Txt.join "," [l.txt, r.txt] ++ ")"))
    rw [join2, tl_append, tl_append, tl_append, tl_append, tl_append, t_f, t_open, t_close, t_comma]
    have hl := txt_fol l (fun n hn => h n (by simp [Tm.nums, hn]))
    have hr := txt_fol r (fun n hn => h n (by simp [Tm.nums, hn]))
    obtain ⟨c, q, e, _, c2⟩ := txt_head r
    have hc : Fol 44 32 ([44] ++ tl r.txt) := by
      rw [e] at hr ⊢
      exact fol_cons c2 hr
    rw [List.append_assoc (tl l.txt)]
    exact fol_append (fol_append (fol_free (by simp)) (fol_append hl hc)) (fol_free (by simp))
theorem join_parts (x : Str) : ∀ l : List Str, tl (Txt.join " " (x :: l)) = tl x ++ l.flatMap fun p => 32 :: tl p
  | [] => by rw [join1]; simp
  | y :: l => by
    have ih := join_parts y l
    rw [TL.join_eq] at ih ⊢
    show tl (x ++ " " ++ Str.join " " (y :: l)) = _
    rw [tl_append, tl_append, ih, t_sp]
    simp
theorem atxt_tl (a : At) : tl (atxt a) = tl a.nm ++ a.ts.flatMap fun t => 32 :: tl t.txt := by
  unfold atxt parts
  rw [join_parts, List.flatMap_map]
theorem atxt_if {z : Nat} {a : At} (ok : AtOk z a) : Fol 32 105 (tl (atxt a)) := by
  rw [atxt_tl]
  refine fol_append (fol_free fun hd => ?_) ?_
  · have := ok.nm.low _ hd; omega
  · have each : ∀ l : List Tm, (∀ t ∈ l, t.small) → Fol 32 105 (l.flatMap fun t => 32 :: tl t.txt) := by
      intro l
      induction l with
      | nil => intro _; trivial
      | cons t l ih =>
        intro h
        rw [List.flatMap_cons]
        refine fol_append ?_ (ih fun u hu => h u (by simp [hu]))
        obtain ⟨c, q, e, c1, _⟩ := txt_head t
        have lo : Fol 32 105 (tl t.txt) := fol_free fun hd => by have := txt_low t (h t (by simp)) _ hd; omega
        rw [e] at lo ⊢
        exact fol_cons c1 lo
    exact each a.ts fun t ht => (ok.sm t ht).1
theorem atxt_com {z : Nat} {a : At} (ok : AtOk z a) : Fol 44 32 (tl (atxt a)) := by
  rw [atxt_tl]
  refine fol_append (fol_free fun hd => ?_) ?_
  · have := ok.nm.low _ hd; omega
  · have each : ∀ l : List Tm, (∀ t ∈ l, t.small) → Fol 44 32 (l.flatMap fun t => 32 :: tl t.txt) := by
      intro l
      induction l with
      | nil => intro _; trivial
      | cons t l ih =>
        intro h
        rw [List.flatMap_cons]
        exact fol_append (p := [32] ++ tl t.txt) (fol_append (fol_free (by simp)) (txt_fol t (h t (by simp)))) (ih fun u hu => h u (by simp [hu]))
    exact each a.ts fun t ht => (ok.sm t ht).1
theorem t_if : tl (" if " : Str) = [32, 105, 102, 32] := by decide +kernel
theorem t_cs : tl (", " : Str) = [44, 32] := by decide +kernel
end Rp

set_option maxHeartbeats 8000000
namespace Rp
open PySem PySem.Spec PyProof.Rows L2 TL StX
theorem atAt_mono {H H' : Hp} (e : ∀ a xs, H a = some (.tup xs) → H' a = some (.tup xs)) {v : V} {a : At} (h : AtAt H v a) : AtAt H' v a := by
  obtain ⟨p, xs, r, h1, h2⟩ := h
  exact ⟨p, xs, r, e _ _ h1, h2.mono e⟩
theorem AtsAt.mono {H H' : Hp} (e : ∀ a xs, H a = some (.tup xs) → H' a = some (.tup xs)) : ∀ {xs : List V} {as : List At}, AtsAt H xs as → AtsAt H' xs as
  | [], [], _ => trivial
  | _ :: _, _ :: _, h => ⟨atAt_mono e h.1, AtsAt.mono e h.2⟩
theorem rtxt_part0 {r : Ru} (ok : RuOk r) (e : r.bd = []) : Txt.partition (rtxt r) " if " = (atxt r.hd, Str.empty, Str.empty) := by
  unfold rtxt
  rw [if_pos e]
  exact partition_nofol t_if (atxt_if ok.hd.toAtOk)
theorem rtxt_part1 {r : Ru} (ok : RuOk r) (e : r.bd ≠ []) : Txt.partition (rtxt r) " if " = (atxt r.hd, (" if " : Str), btxt r.bd) := by
  unfold rtxt
  rw [if_neg e]
  exact partition_fol t_if (atxt_if ok.hd.toAtOk)
theorem btxt_split {as : List At} (ok : AtsOk as) (e : as ≠ []) : Txt.split (btxt as) ", " = as.map atxt := by
  refine split_fol t_cs (by decide +kernel) (by simpa using e) fun p hp => ?_
  obtain ⟨a, ha, rfl⟩ := List.mem_map.mp hp
  exact atxt_com (ok.ok a ha)
theorem rtxt_len {r : Ru} (ok : RuOk r) : (rtxt r).length ≤ 3600 := by
  have h1 := atxt_len ok.hd.toAtOk
  have h2 : (Txt.join ", " (r.bd.map atxt)).length ≤ 3012 := btxt_len ok.bd.ats
  have l4 : (" if " : Str).length = 4 := by decide +kernel
  unfold rtxt
  split
  · omega
  · rw [slen, slen]; omega
def spRuleOr : Sp := fun vs H Q _ => ∃ r : Ru, vs = [.str (rtxt r)] ∧ RuOk r ∧ ∀ (v : V) (H' : Hp), RuAt H' v r → Same H H' → Q v H'
def spAtomsOr : Sp := fun vs H Q _ => ∃ as : List At, vs = [.str (btxt as)] ∧ AtsOk as ∧ as ≠ [] ∧ ∀ (b : Addr) (xs : List V) (H' : Hp), H' b = some (.tup xs) → AtsAt H' xs as → Same H H' → Q (.ref b) H'
section
variable {P : Program} {w : World} {K : PySem.W.Frag} {mg : Str → Option Value} {base : Heap}
theorem scAtomsOr : FnScope ["text", "part"] ["text"] (defScope sAtomsOr) := ⟨rfl, rfl, rfl, by decide +kernel, rfl, by decide +kernel, by decide +kernel⟩
theorem ok_atomsor {f fA : Addr} {fd dA : FuncData} (F : Fun K "atoms_or_nones" "atoms_or_nones" sAtomsOr f fd)
    (GA : FnOk P w K mg base CX0 6 fA dA ["text"] spAtomOr) (kA : PySem.W.keepIn K (.ref fA) = true) (bA : Binds K dA ["text"] []) (mA : mg "atom_or_none" = some (.ref fA)) (mTuple : mg "tuple" = none) : FnOk P w K mg base CX0 7 f fd ["text"] spAtomsOr := by
  refine F.ok scAtomsOr (fun vs H Q E h => ?_) (fun cdv A outer s H vs Q E hr h => ?_)
  · obtain ⟨as, rfl, _⟩ := h
    rfl
  obtain ⟨as, rfl, ok, e, q⟩ := h
  refine ⟨_, pss_one (ps_ret (pe_callTy call_tuple_of (by rfl) mTuple (by decide +kernel) (pa_cons (pe_lc (own := [("part", 1)]) (g := gName 1) (tt := tYes) (te := tCall spAtomOr [] E0 (tCons (tVar 1) tNil)) rfl scAtomsOr.nd
        (pi_list (pe_split (pv 0) pe_str)) (blkOk_by (N := ["text", "part"]) (sc := defScope sAtomsOr) (by decide +kernel)) (fun _ _ _ _ _ => pg_name (i := 1) scAtomsOr.nd rfl (Or.inl rfl))
        (fun _ _ _ _ _ => pts_nil) (fun _ _ _ _ _ => pe_call GA hr (by rfl) mA kA bA .nil pass0 (pa_cons (pv 1) pa_nil))) pa_nil))), ?_⟩
  have big : (10000 : Nat) ≤ sizeLine := by decide
  have o3 := ok.few
  have bl := btxt_len ok
  refine ⟨_, rfl, ⟨_, rfl⟩, btxt as, ", ", rfl, rfl, by decide +kernel, by omega, fun l hl => ?_⟩
  rw [btxt_split ok e]
  have s2 := same_new hl (.lst ((as.map atxt).map V.str))
  refine ⟨l, rfl, ⟨_, .inl (.inl upd_same)⟩, fun D hD => lc_list (K := K) (a := l) (xs := (as.map atxt).map V.str) (fun i H2 => ∃ xs : List V, H2 D = some (.lst xs) ∧ AtsAt H2 xs (as.take i) ∧ Same (upd H l (.lst ((as.map atxt).map V.str))) H2)
    ⟨[], upd_same, trivial, same_new hD _⟩ (fun i H2 _ ⟨_, _, _, h⟩ => .inl (.inl (h _ _ upd_same))) ?_ ?_⟩
  · rintro i x H2 hi ⟨xs, h2, A2, s3⟩
    rw [List.map_map, List.getElem?_map] at hi
    obtain ⟨a, ha, rfl⟩ : ∃ a, as[i]? = some a ∧ x = .str (atxt a) := by
      cases hq : as[i]? with
      | none => rw [hq] at hi; cases hi
      | some p => rw [hq] at hi; exact ⟨p, rfl, by simpa using hi.symm⟩
    have am : a ∈ as := List.mem_of_getElem? ha
    have li : i < as.length := (List.getElem?_eq_some_iff.mp ha).1
    have xl := A2.len
    rw [List.length_take] at xl
    refine ⟨rfl, ?_⟩
    refine ⟨_, rfl, a, rfl, ok.ok a am, fun v H3 T s4 => ⟨xs, s4 _ _ h2, by omega, xs ++ [v], upd_same, ?_, ?_⟩⟩
    · have h3 := s4 _ _ h2
      have keep : ∀ b zs, H3 b = some (.tup zs) → (upd H3 D (.lst (xs ++ [v]))) b = some (.tup zs) := fun b zs z => by rw [upd_ne (ne_of z h3 (by intro z; cases z))]; exact z
      have tk : as.take (i + 1) = as.take i ++ [a] := by rw [List.take_add_one, ha]; rfl
      rw [tk]
      exact (A2.mono fun b zs z => keep b zs (s4 _ _ z)).append ⟨atAt_mono keep T, trivial⟩
    · intro c o z
      rw [upd_ne (ne_of_none z hD)]
      exact s4 _ _ (s3 _ _ z)
  · rintro H2 ⟨xs, h2, A2, s3⟩
    rw [List.length_map, List.length_map, List.take_of_length_le (Nat.le_refl _)] at A2
    refine ⟨D, xs, rfl, .inl ⟨.inl (.inl h2), fun b hb => ?_⟩⟩
    have s4 := same_new hb (.tup xs)
    exact q b xs _ upd_same (A2.same s4) (s2.trans (s3.trans s4))
theorem scRuleOr : FnScope ["text", "head", "parting", "atoms", "body", "rule"] ["text"] (defScope sRuleOr) := ⟨rfl, rfl, rfl, by decide +kernel, rfl, by decide +kernel, by decide +kernel⟩
theorem ok_ruleor {f fA fB fI : Addr} {fd dA dB dI : FuncData} (F : Fun K "rule_or_none" "rule_or_none" sRuleOr f fd)
    (GA : FnOk P w K mg base CX0 6 fA dA ["text"] spAtomOr) (kA : PySem.W.keepIn K (.ref fA) = true) (bA : Binds K dA ["text"] []) (mA : mg "atom_or_none" = some (.ref fA))
    (GB : FnOk P w K mg base CX0 7 fB dB ["text"] spAtomsOr) (kB : PySem.W.keepIn K (.ref fB) = true) (bB : Binds K dB ["text"] []) (mB : mg "atoms_or_nones" = some (.ref fB))
    (GI : FnOk P w K mg base CX0 6 fI dI ["thing"] spIsRule) (kI : PySem.W.keepIn K (.ref fI) = true) (bI : Binds K dI ["thing"] []) (mI : mg "is_rule" = some (.ref fI)) : FnOk P w K mg base CX0 8 f fd ["text"] spRuleOr := by
  refine F.ok scRuleOr (fun vs H Q E h => ?_) (fun cdv A outer s H vs Q E hr h => ?_)
  · obtain ⟨r, rfl, _⟩ := h
    rfl
  obtain ⟨r, rfl, ok, q⟩ := h
  have r6 : Room 6 _ := hr.mono (by decide)
  refine ⟨_, pss_cons (ps_asg (pe_partition (pv 0) pe_str) (pg_tup (by rfl) (pgs_cons (pg_name (i := 1) scRuleOr.nd rfl (Or.inl rfl)) (pgs_cons (pg_name (i := 2) scRuleOr.nd rfl (Or.inl rfl)) (pgs_cons (pg_name (i := 3) scRuleOr.nd rfl (Or.inl rfl)) pgs_nil)))))
    (pss_cons (ps_set (i := 4) scRuleOr.nd rfl (Or.inl rfl) (pe_ifExp (pt_truth (pv 2) (by intro _; rfl)) (pe_call GB hr rfl mB kB bB .nil pass0 (pa_cons (pv 3) pa_nil)) (pe_tup pa_nil)))
    (pss_cons (ps_set (i := 5) scRuleOr.nd rfl (Or.inl rfl) (pe_tup (pa_cons (pe_call GA r6 rfl mA kA bA .nil pass0 (pa_cons (pv 1) pa_nil)) (pa_cons (pv 4) pa_nil))))
    (pss_one (ps_ret (pe_ifExp (pt_val (pe_call GI r6 rfl mI kI bI .nil pass0 (pa_cons (pv 5) pa_nil))) (pv 5) pe_non))))), ?_⟩
  have big : (10000 : Nat) ≤ sizeLine := by decide
  have rl := rtxt_len ok
  have o3 := ok.bd.few
  -- the end, once the body is made
  have fin : ∀ (b : Addr) (xs : List V) (H2 : Hp) (x1 : V), x1 = .str (atxt r.hd) → H2 b = some (.tup xs) → AtsAt H2 xs r.bd → Same H H2 → ∀ v H3, AtAt H3 v r.hd → Same H2 H3 → ∀ g, H3 g = none → RuAt (upd H3 g (.tup [v, .ref b])) (.ref g) r ∧ Same H (upd H3 g (.tup [v, .ref b])) := by
    intro b xs H2 x1 _ hb A s2 v H3 T s3 g hg
    have s4 := same_new hg (.tup [v, .ref b])
    exact ⟨⟨g, b, v, xs, rfl, upd_same, atAt_same T s4, s4 _ _ (s3 _ _ hb), (A.same s3).same s4⟩, s2.trans (s3.trans s4)⟩
  by_cases e : r.bd = []
  · refine ⟨_, rfl, ⟨_, rfl⟩, rtxt r, " if ", rfl, rfl, by decide +kernel, by omega, fun g hg => ?_⟩
    rw [rtxt_part0 ok e]
    have s1 := same_new hg (.tup [V.str (atxt r.hd), .str Str.empty, .str Str.empty])
    refine ⟨g, _, rfl, .inl (.inl upd_same), rfl, _, _, rfl, _, _, rfl, _, _, rfl, rfl, ?_⟩
    refine ⟨_, rfl, false, ⟨(by show 0 ≤ sizeLine; decide), (by show false = (((Str.empty : Str).length : Int) != 0); decide +kernel)⟩, iteF ⟨(by show 0 ≤ sizeLine; decide), fun b hb => ?_⟩⟩
    have s2 := same_new hb (.tup ([] : List V))
    refine ⟨_, rfl, r.hd, rfl, ok.hd.toAtOk, fun v H3 T s3 => ⟨_, rfl, (by show 2 ≤ sizeLine; decide), fun c hc => ?_⟩⟩
    obtain ⟨R, s4⟩ := fin b [] _ _ rfl upd_same (by rw [e]; trivial) (s1.trans s2) v H3 T s3 c hc
    exact ⟨_, rfl, _, r, rfl, R, ok, fun H5 s5 => ⟨true, rfl, iteT ⟨_, rfl, q _ H5 (R.same s5) (s4.trans s5)⟩⟩⟩
  · refine ⟨_, rfl, ⟨_, rfl⟩, rtxt r, " if ", rfl, rfl, by decide +kernel, by omega, fun g hg => ?_⟩
    rw [rtxt_part1 ok e]
    have s1 := same_new hg (.tup [V.str (atxt r.hd), .str (" if " : Str), .str (btxt r.bd)])
    refine ⟨g, _, rfl, .inl (.inl upd_same), rfl, _, _, rfl, _, _, rfl, _, _, rfl, rfl, ?_⟩
    refine ⟨_, rfl, true, ⟨(by show (" if " : Str).length ≤ sizeLine; rw [show (" if " : Str).length = 4 by decide +kernel]; omega), (by show true = (((" if " : Str).length : Int) != 0); decide +kernel)⟩, iteT ?_⟩
    refine ⟨_, rfl, r.bd, rfl, ok.bd.ats, e, fun b xs H2 hb A2 s2 => ?_⟩
    refine ⟨_, rfl, r.hd, rfl, ok.hd.toAtOk, fun v H3 T s5 => ⟨_, rfl, (by show 2 ≤ sizeLine; decide), fun c hc => ?_⟩⟩
    obtain ⟨R, s6⟩ := fin b xs _ _ rfl hb A2 (s1.trans s2) v H3 T s5 c hc
    exact ⟨_, rfl, _, r, rfl, R, ok, fun H5 s7 => ⟨true, rfl, iteT ⟨_, rfl, q _ H5 (R.same s7) (s6.trans s7)⟩⟩⟩
theorem scRuleIn : FnScope ["text", "rule"] ["text"] (defScope sRuleIn) := ⟨rfl, rfl, rfl, by decide +kernel, rfl, by decide +kernel, by decide +kernel⟩
theorem ok_rulein {f fO : Addr} {fd dO : FuncData} (F : Fun K "rule_in" "rule_in" sRuleIn f fd)
    (GO : FnOk P w K mg base CX0 8 fO dO ["text"] spRuleOr) (kO : PySem.W.keepIn K (.ref fO) = true) (bO : Binds K dO ["text"] []) (mO : mg "rule_or_none" = some (.ref fO)) : FnOk P w K mg base CX0 9 f fd ["text"] spRuleOr := by
  refine F.ok scRuleIn (fun vs H Q E h => ?_) (fun cdv A outer s H vs Q E hr h => ?_)
  · obtain ⟨a, rfl, _⟩ := h
    rfl
  obtain ⟨a, rfl, ok, q⟩ := h
  refine ⟨_, pss_cons (ps_set (i := 1) scRuleIn.nd rfl (Or.inl rfl) (pe_call GO hr rfl mO kO bO .nil pass0 (pa_cons (pv 0) pa_nil)))
    (pss_cons (ps_if (pt_cmpR op_isN (pv 1) pe_non (nomark _)) pss_never pss_nil) (pss_one (ps_ret (pv 1)))), ?_⟩
  refine ⟨_, rfl, a, rfl, ok, fun v H1 T s1 => ?_⟩
  have vn : v ≠ .non := by obtain ⟨g, _, _, _, rfl, _⟩ := T; intro z; cases z
  exact ⟨_, rfl, rfl, false, congrArg V.bl (decide_eq_false vn), iteF ⟨_, rfl, q v H1 T s1⟩⟩
end
end Rp

set_option maxHeartbeats 8000000
/-! The law's own texts. -/
namespace Rp
open PySem PySem.Spec PyProof.Rows L2 TL
def spLText (n : Nat) : Sp := fun vs H Q _ => ∃ (v : V) (t : Tm), vs = [v] ∧ TmAt H v t ∧ t.small ∧ t.size ≤ 1000 ∧ t.deep < n ∧ ∀ H', Same H H' → Q (.str t.txt) H'
theorem kid_nums {t k : Tm} (h : k ∈ t.kids) : ∀ n ∈ k.nums, n ∈ t.nums := by
  cases t with
  | v n => simp [Tm.kids] at h
  | z => simp [Tm.kids] at h
  | s t => simp [Tm.kids] at h; subst h; exact fun n hn => hn
  | f l r =>
    simp [Tm.kids] at h
    rcases h with rfl | rfl
    · exact fun n hn => List.mem_append.mpr (.inl hn)
    · exact fun n hn => List.mem_append.mpr (.inr hn)
def atD (a : At) : PyData := .tuple (.str a.nm :: a.ts.map tmD)
def bdD (as : List At) : PyData := .tuple (as.map atD)
theorem all_dp {K : PySem.W.Frag} {H : Hp} : ∀ {xs : List V} {ts : List Tm}, AllAt H xs ts → DpAll K H xs (ts.map tmD)
  | [], [], _ => .nil
  | _ :: _, _ :: _, h => .cons (h.1.dat (b := (0 : Nat))).dp (all_dp h.2)
theorem at_dp {K : PySem.W.Frag} {H : Hp} {v : V} {a : At} (h : AtAt H v a) : Dp K H v (atD a) := by
  obtain ⟨p, xs, rfl, h1, h2⟩ := h
  exact .tup (.inl (.inl h1)) (.cons (.str _) (all_dp h2))
theorem ats_dp {K : PySem.W.Frag} {H : Hp} : ∀ {xs : List V} {as : List At}, AtsAt H xs as → DpAll K H xs (as.map atD)
  | [], [], _ => .nil
  | _ :: _, _ :: _, h => .cons (at_dp h.1) (ats_dp h.2)
theorem name_lay {x : Str} (h : NameOk x) : PyData.canLay0 (.str x) = true := by
  show x.cps.all (· < 0x110000) = true
  rw [Array.all_eq_true']
  intro c hc
  have := h.low c (Array.mem_toList_iff.mpr hc)
  exact decide_eq_true (by omega)
theorem tms_lay : ∀ {ts : List Tm}, (∀ t ∈ ts, t.size ≤ 50) → PyData.canLayAll0 (ts.map tmD) = true ∧ PyData.depthAll (ts.map tmD) ≤ 51
  | [], _ => ⟨rfl, by decide⟩
  | t :: ts, h => by
    have ih := tms_lay (ts := ts) fun u hu => h u (by simp [hu])
    have d1 := Tm.deep_lt t
    have z := h t (by simp)
    obtain ⟨c1, c2, _⟩ : (tmD t).canLay0 = true ∧ (tmD t).depth ≤ t.deep + 1 ∧ nd (tmD t) ≤ 2 * t.size := tm_ok t
    simp only [List.map_cons, PyData.canLayAll0, PyData.depthAll, c1, ih.1]
    exact ⟨rfl, by omega⟩
theorem at_lay {a : At} (ok : AtOk 50 a) : (atD a).canLay0 = true ∧ (atD a).depth ≤ 52 := by
  have h := tms_lay (ts := a.ts) fun t ht => (ok.sm t ht).2
  refine ⟨?_, ?_⟩
  · show PyData.canLayAll0 (.str a.nm :: a.ts.map tmD) = true
    simp only [PyData.canLayAll0, name_lay ok.nm, h.1]
    rfl
  · show PyData.depthAll (.str a.nm :: a.ts.map tmD) + 1 ≤ 52
    simp only [PyData.depthAll, PyData.depth]
    omega
theorem ats_lay : ∀ {as : List At}, (∀ a ∈ as, AtOk 50 a) → PyData.canLayAll0 (as.map atD) = true ∧ PyData.depthAll (as.map atD) ≤ 52
  | [], _ => ⟨rfl, by decide⟩
  | a :: as, h => by
    have ih := ats_lay (as := as) fun b hb => h b (by simp [hb])
    have z := at_lay (h a (by simp))
    simp only [List.map_cons, PyData.canLayAll0, PyData.depthAll, z.1, ih.1]
    exact ⟨rfl, by omega⟩
theorem bd_shaped {as : List At} (h : ∀ a ∈ as, AtOk 50 a) : SeqAt.shaped (bdD as) = true := by
  have z := ats_lay h
  refine shaped_of ?_ ?_
  · show PyData.canLayAll0 _ = true
    exact z.1
  · show PyData.depthAll _ + 1 ≤ 64
    omega
theorem eqv_tnil {ds : List PyData} : PyData.eqv (.tuple ds) (.tuple []) = ds.isEmpty := by
  cases ds <;> simp [PyData.eqv, PyData.eqvAll]
section
variable {P : Program} {w : World} {K : PySem.W.Frag} {mg : Str → Option Value} {base : Heap}
def spLAtom : Sp := spAtomText
end
end Rp

set_option maxHeartbeats 8000000
/-! The law's terms. -/
namespace Rp
open PySem PySem.Spec PyProof.Rows L2 TL
def spLVar : Sp := fun vs H Q _ => ∃ (b : Addr) (j : Nat), vs = [.ref b] ∧ BoxAt H b j ∧ j + 3 ≤ 1000000 ∧ ∀ (n : Int) (H' : Hp), 0 ≤ n → n ≤ 99 → BoxAt H' b (j + 3) → But b H H' → Q (.int n) H'
def spLTerm (n : Nat) : Sp := fun vs H Q _ => ∃ (b : Addr) (j d : Nat), vs = [.ref b, .int d] ∧ BoxAt H b j ∧ d < n ∧ d ≤ 4 ∧ j + (6 * 2 ^ d - 1) ≤ 1000000 ∧
  ∀ (v : V) (t : Tm) (H' : Hp), TmAt H' v t → t.small → t.size + 1 ≤ 2 ^ (d + 1) → BoxAt H' b (j + (6 * 2 ^ d - 1)) → But b H H' → Q v H'
section
variable {P : Program} {w : World} {K : PySem.W.Frag} {mg : Str → Option Value} {base : Heap}
theorem TmAt.box {H H' : Hp} {b : Addr} {v : V} {t : Tm} {j : Nat} (T : TmAt H v t) (o : But b H H') (B : BoxAt H b j) : TmAt H' v t := by
  obtain ⟨ys, hb⟩ := B.some
  exact T.mono fun a xs z => o _ _ z (ne_of z hb (by intro e; cases e))
end
end Rp

set_option maxHeartbeats 8000000
/-! The law's heads. -/
namespace Rp
open PySem PySem.Spec PyProof.Rows L2 TL StX
def spLHead : Sp := fun vs H Q _ => ∃ (b : Addr) (j m : Nat) (x : Str), vs = [.ref b, .str x, .int m] ∧ BoxAt H b j ∧ j + 2 ≤ 1000000 ∧ NameOk x ∧ 1 ≤ m ∧ m ≤ 2 ∧
  ∀ (p : Addr) (v : V) (a : At) (H' : Hp), H' p = some (.tup [v, .int ((hvars a.ts).length : Nat)]) → AtAt H' v a → a.nm = x → a.ts.length = m → HdOk a → BoxAt H' b (j + 2) → But b H H' → Q (.ref p) H'
section
variable {P : Program} {w : World} {K : PySem.W.Frag} {mg : Str → Option Value} {base : Heap}
end
end Rp

set_option maxHeartbeats 8000000
/-! The law's folded script, its words. -/
namespace Rp
open PySem PySem.Spec PyProof.Rows L2 TL StX
theorem cut_to {xs : List V} (n : Nat) : cutV xs none (some (n : Int)) = xs.take n := by
  unfold cutV
  rw [HT.sIx_none, HT.sIx_nat, List.drop_zero, Nat.sub_zero]
  rcases Nat.le_total n xs.length with h | h
  · rw [Nat.min_eq_left h]
  · rw [Nat.min_eq_right h, List.take_length, List.take_of_length_le h]
theorem cut_mid {xs : List V} (n m : Nat) : ∃ a b, cutV xs (some (n : Int)) (some (m : Int)) = (xs.drop (min n xs.length)).take b ∧ a = b := ⟨_, _, by unfold cutV; rw [HT.sIx_nat, HT.sIx_nat], rfl⟩
theorem eqv_lnil {ds : List PyData} : PyData.eqv (.list ds) (.list []) = ds.isEmpty := by
  cases ds <;> simp [PyData.eqv, PyData.eqvAll]
theorem ixN_int {n : Nat} {i : Int} (h : 0 ≤ i ∧ i < n) : ixN n i = some i.toNat := by unfold ixN; rw [if_pos h.1, if_pos h.2]
theorem but_none {H H' : Hp} {b : Addr} {j : Nat} (o : But b H H') (B : BoxAt H' b j) {D : Addr} (h : H' D = none) : H D = none := by
  cases e : H D with
  | none => rfl
  | some u =>
    have nb : D ≠ b := by
      rintro rfl
      obtain ⟨ys, hb⟩ := B.some
      rw [hb] at h; cases h
    have := o _ _ e nb
    rw [h] at this; cases this
theorem BoxAt.upd {H : Hp} {b D : Addr} {j : Nat} (B : BoxAt H b j) (n : D ≠ b) (o : HO) : BoxAt (L2.upd H D o) b j := by
  obtain ⟨x, y, z, h, r⟩ := B.ex
  exact ⟨x, y, z, by rw [upd_ne n.symm]; exact h, r⟩
def spFolded (K : PySem.W.Frag) : Sp := fun vs H Q _ => ∃ (a : Addr) (ns : List Int), vs = [.ref a, .int 4] ∧ SqL K H a (ns.map V.int) ∧ ns.length ≤ 63 ∧
  ∀ (p : Addr) (cs : List Int) (H' : Hp), H p = none → H' p = some (.lst (cs.map V.int)) → 1 ≤ cs.length → cs.length ≤ 4 → Same H H' → Q (.ref p) H'
def Low (x : Str) : Prop := ∀ c ∈ tl x, 97 ≤ c ∧ c ≤ 122
theorem low_cut {z : Str} (h : Low z) (lo hi : Option Int) : Low (cutS z lo hi) := by
  intro c hc
  have hc : c ∈ (z.cps.toList.drop (HT.sIx z.length 0 lo)).take (HT.sIx z.length z.length hi - HT.sIx z.length 0 lo) := hc
  exact h c (List.mem_of_mem_drop (List.mem_of_mem_take hc))
theorem cutS_parts {z : Str} {k : Nat} (h : k ≤ z.length) : (cutS z none (some (k : Int))).length = k ∧ (cutS z (some (k : Int)) none).length = z.length - k := by
  have e : z.cps.toList.length = z.length := Array.length_toList
  constructor
  · show (((z.cps.toList.drop (HT.sIx z.length 0 none)).take (HT.sIx z.length z.length (some (k : Int)) - HT.sIx z.length 0 none)).toArray).size = k
    rw [List.size_toArray, HT.sIx_none, HT.sIx_nat, List.length_take, List.length_drop, e]
    omega
  · show (((z.cps.toList.drop (HT.sIx z.length 0 (some (k : Int)))).take (HT.sIx z.length z.length none - HT.sIx z.length 0 (some (k : Int)))).toArray).size = _
    rw [List.size_toArray, HT.sIx_none, HT.sIx_nat, List.length_take, List.length_drop, e]
    omega
theorem low_append {a b : Str} (ha : Low a) (hb : Low b) : Low (a ++ b) := by
  intro c hc
  rw [tl_append] at hc
  rcases List.mem_append.mp hc with hc | hc
  · exact ha c hc
  · exact hb c hc
theorem low_one {c : Nat} (h : 97 ≤ c ∧ c ≤ 122) : Low ⟨#[c]⟩ := by
  intro d hd
  have hd : d ∈ [c] := hd
  simp at hd
  omega
theorem low_join : ∀ ys : List Str, (∀ y ∈ ys, y.length = 1 ∧ Low y) → (Txt.join "" ys).length = ys.length ∧ Low (Txt.join "" ys)
  | [], _ => ⟨by decide +kernel, fun c hc => by have : tl (Txt.join "" []) = [] := by decide +kernel
                                                rw [this] at hc; simp at hc⟩
  | [x], h => by rw [join1]; exact h x (by simp)
  | x :: y :: l, h => by
    have ih := low_join (y :: l) fun z hz => h z (by simp at hz ⊢; exact .inr hz)
    have hx := h x (by simp)
    rw [TL.join_eq] at ih ⊢
    have e0 : ("" : Str).length = 0 := by decide +kernel
    have le : Low ("" : Str) := fun c hc => by have : tl ("" : Str) = [] := by decide +kernel
                                               rw [this] at hc; simp at hc
    refine ⟨?_, low_append (low_append hx.2 le) ih.2⟩
    show (x ++ "" ++ Str.join "" (y :: l)).length = _
    rw [slen, slen, e0, hx.1, ih.1]
    simp only [List.length_cons]
    omega
theorem letter_at {i : Int} (h : 0 ≤ i ∧ i < 26) : ∃ c, atI letters.cps.toList i = some c ∧ 97 ≤ c ∧ c ≤ 122 := by
  have all : ∀ k : Fin 26, atI letters.cps.toList (k.val : Int) = some (97 + k.val) := by decide +kernel
  obtain ⟨k, rfl⟩ := Int.eq_ofNat_of_zero_le h.1
  exact ⟨_, all ⟨k, by omega⟩, by show 97 ≤ 97 + k; omega, by show 97 + k ≤ 122; omega⟩
def spWords : Sp := fun vs H Q _ => ∃ (b : Addr) (j : Nat), vs = [.ref b, .int 4] ∧ BoxAt H b j ∧ j + 10 ≤ 1000000 ∧
  ∀ (p : Addr) (ws : List Str) (H' : Hp), H p = none → H' p = some (.lst (ws.map V.str)) → ws.length = 4 → (∀ x ∈ ws, NameOk x) → BoxAt H' b (j + 10) → But b H H' → Q (.ref p) H'
def rMod : R2 := rI (fun _ j => 0 < j) fun i j => .int (i % j)
def rMulI : R2 := rI CMul fun i j => .int (i * j)
def rAddI : R2 := rI0 fun i j => .int (i + j)
def rAddS : R2 := fun x y H Q => ∃ i j, x = .str i ∧ y = .str j ∧ i.length + j.length ≤ sizeLine ∧ Q (.str (i ++ j)) H
theorem op_modP {X : Cx} : OpR X (binaryOp .Mod) rMod := op_mod
theorem op_mulI {X : Cx} : OpR X (binaryOp .Mult) rMulI := op_mul
theorem op_addI {X : Cx} : OpR X (binaryOp .Add) rAddI := op_add
theorem op_addS {X : Cx} : OpR X (binaryOp .Add) rAddS := op_add_str
def teLetter : TE := tOp rIxS (tVar 2) (tCall spTake [] E0 (tCons (tVar 0) (tCons (tC (.int 26)) tNil)))
def teName : TE := tOp rAddS (tOp rAddS (tSl rSlS (tVar 5) tNoPart (tPart (tVar 6))) (tOp rIxS (tVar 2) (tOp rMod (tOp rAddI (tVar 3) (tOp rMulI (tVar 4) (tVar 8))) (tC (.int 26))))) (tSl rSlS (tVar 5) (tPart (tVar 6)) tNoPart)
def teIff : TE := tIf (tTest (tOp rEq (tVar 9) (tC (.str "if")))) (tC (.str "iff")) (tVar 9)
section
variable {P : Program} {w : World} {K : PySem.W.Frag} {mg : Str → Option Value} {base : Heap}
theorem scFolded : FnScope ["_law_script", "_law_count", "_law_cells", "_law_k", "_law_cell"] ["_law_script", "_law_count"] (defScope sFolded) := ⟨rfl, rfl, rfl, by decide +kernel, rfl, by decide +kernel, by decide +kernel⟩
theorem ok_folded {f : Addr} {fd : FuncData} (F : Fun K "_law_folded" "_law_folded" sFolded f fd) (mList : mg "list" = none) (mEnum : mg "enumerate" = none) : FnOk P w K mg base CX0 1 f fd ["_law_script", "_law_count"] (spFolded K) := by
  refine F.ok scFolded (fun vs H Q E h => ?_) (fun cdv A outer s H vs Q E hr h => ?_)
  · obtain ⟨a, ns, rfl, _⟩ := h
    rfl
  obtain ⟨a, ns, rfl, hS, hl, q⟩ := h
  refine ⟨_, pss_cons (ps_set (i := 2) scFolded.nd rfl (Or.inl rfl) (pe_callTy call_list_of (by rfl) mList (by decide +kernel) (pa_cons (pe_slice sl_list (pv 0) po_none (po_some (pv 1))) pa_nil)))
    (pss_cons (ps_for PassesOwn.never rfl (pi_enum (by rfl) mEnum (pa_cons (pe_slice sl_list (pv 0) (po_some (pv 1)) (po_some pe_int)) pa_nil)) (pg_tup (by rfl) (pgs_cons (pg_name (i := 3) scFolded.nd rfl (Or.inl rfl)) (pgs_cons (pg_name (i := 4) scFolded.nd rfl (Or.inl rfl)) pgs_nil)))
      (pss_one (ps_asg (pe_op op_addI (pe_ix ix_list (pv 2) (pe_op op_modP (pv 3) (pv 1)) (fun _ _ => rfl)) (pe_op op_mulI (pv 4) (pe_op op_addI (pv 3) pe_int))) (pg_sub (pv 2) (pe_op op_modP (pv 3) (pv 1)) set_list))))
    (pss_one (ps_ret (pe_ifExp (pt_cmpR (op_neD hr.units) (pv 2) (pe_lst pa_nil) (nomark _)) (pv 2) (pe_lst (pa_cons pe_int pa_nil)))))), ?_⟩
  have big : (10000 : Nat) ≤ sizeLine := by decide
  have e1 : cutV (ns.map V.int) none (some 4) = (ns.take 4).map V.int := by rw [show (some 4 : Option Int) = some ((4 : Nat) : Int) from rfl, cut_to, List.map_take]
  obtain ⟨ms, e2, ml⟩ : ∃ ms : List Int, cutV (ns.map V.int) (some 4) (some 63) = ms.map V.int ∧ (ms.length ≤ 63 ∧ (0 < ms.length → 4 ≤ ns.length)) := by
    refine ⟨(ns.drop (min 4 ns.length)).take (min 63 ns.length - min 4 ns.length), ?_, ?_⟩
    · rw [show (some 4 : Option Int) = some ((4 : Nat) : Int) from rfl, show (some 63 : Option Int) = some ((63 : Nat) : Int) from rfl]
      unfold cutV
      rw [HT.sIx_nat, HT.sIx_nat, List.length_map, List.map_take, List.map_drop]
    · rw [List.length_take, List.length_drop]
      omega
  refine ⟨_, rfl, _, rfl, 4, rfl, a, _, rfl, hS, fun p hp => ?_⟩
  rw [e1]
  have s1 := same_new hp (.lst ((ns.take 4).map V.int))
  refine ⟨p, _, rfl, .inl (.inl (.inl upd_same)), fun l hl => ?_⟩
  have s2 := same_new hl (.lst ((ns.take 4).map V.int))
  have s12 := s1.trans s2
  refine ⟨_, rfl, _, rfl, 4, rfl, 63, rfl, a, _, rfl, s12.seq hS, fun g hg => ?_⟩
  rw [e2]
  have s3 := same_new hg (.lst (ms.map V.int))
  have lg : l ≠ g := ne_of_none upd_same hg
  refine ⟨g, _, rfl, .inl (.inl upd_same), for_it walk_enum (fun i σ H3 => ∃ (cs : List Int) (x3 x4 : Option V), σ = [some (.ref a), some (.int 4), some (.ref l), x3, x4] ∧ H3 l = some (.lst (cs.map V.int)) ∧ cs.length = (ns.take 4).length ∧ H3 g = some (.lst (ms.map V.int)) ∧ Same H H3)
    ⟨ns.take 4, _, _, rfl, s3 _ _ upd_same, rfl, upd_same, s12.trans s3⟩ (fun i σ H3 _ ⟨_, _, _, _, _, _, h, _⟩ => .inl (.inl h)) ?_ ?_⟩
  · rintro i x σ H3 H4 hi ⟨cs, x3, x4, rfl, h3l, cl, h3g, s⟩ ⟨T, u, v, rfl, hT, rfl, hu, hv⟩
    obtain rfl := Option.some.inj hu
    rw [List.length_map] at hi
    have four := ml.2 (by omega)
    have m63 := ml.1
    have cl4 : cs.length = 4 := by rw [cl, List.length_take]; omega
    have hv : (ms.map V.int)[i]? = some v := hv
    rw [List.getElem?_map, List.getElem?_eq_getElem hi] at hv
    obtain rfl := Option.some.inj hv
    have sT := same_new hT (.tup [V.int (i : Nat), V.int ms[i]])
    refine ⟨T, _, rfl, .inl (.inl upd_same), rfl, _, _, rfl, _, _, rfl, rfl, ?_⟩
    have m0 : 0 ≤ (i : Int) % 4 ∧ (i : Int) % 4 < 4 := by omega
    have lt : ((i : Int) % 4).toNat < cs.length := by omega
    have hix : ixN (cs.map V.int).length ((i : Int) % 4) = some ((i : Int) % 4).toNat := by rw [List.length_map]; exact ixN_int ⟨m0.1, by omega⟩
    have hat : atI (cs.map V.int) ((i : Int) % 4) = some (V.int cs[((i : Int) % 4).toNat]) := by
      unfold atI
      rw [hix]
      show (cs.map V.int)[((i : Int) % 4).toNat]? = _
      rw [List.getElem?_map, List.getElem?_eq_getElem lt]
      rfl
    refine ⟨_, rfl, _, rfl, _, rfl, _, _, rfl, rfl, (by show (0 : Int) < 4; decide), l, _, _, _, rfl, rfl, .inl (.inl (sT _ _ h3l)), hat, ?_⟩
    refine ⟨_, rfl, _, rfl, _, _, rfl, rfl, _, _, rfl, rfl, .inr ⟨by omega, by omega⟩, _, _, rfl, rfl, ?_⟩
    refine ⟨_, rfl, _, rfl, _, rfl, _, _, rfl, rfl, (by show (0 : Int) < 4; decide), l, _, _, _, rfl, rfl, sT _ _ h3l, hix, ?_⟩
    refine ⟨cs.set ((i : Int) % 4).toNat (cs[((i : Int) % 4).toNat] + ms[i] * ((i : Nat) + 2)), _, _, rfl, ?_, ?_, ?_, ?_⟩
    · rw [upd_same, List.map_set]
    · rw [List.length_set, cl]
    · rw [upd_ne lg.symm]
      exact sT _ _ h3g
    · intro c o z
      have cn : c ≠ l := ne_of_none (s1 _ _ z) hl
      rw [upd_ne cn]
      exact sT _ _ (s _ _ z)
  · rintro σ H3 ⟨cs, x3, x4, rfl, h3l, cl, h3g, s⟩
    have cl4 : cs.length ≤ 4 := by rw [cl, List.length_take]; omega
    have hl0 : H l = none := by
      cases e : H l with
      | none => rfl
      | some u => have := s1 _ _ e; rw [hl] at this; cases this
    refine ⟨_, rfl, (by show 0 ≤ sizeLine; decide), fun b hb => ?_⟩
    have s4 := same_new hb (.lst ([] : List V))
    refine ⟨.list (cs.map .int), .list [], .lst (.inl (.inl (s4 _ _ h3l))) (dp_ints cs), .lst (.inl (.inl upd_same)) .nil, ints_shaped cs, ints_shaped [], !(cs.map PyData.int).isEmpty, congrArg (fun z => V.bl (!z)) eqv_lnil, ?_⟩
    cases cs with
    | nil =>
      refine iteF ⟨(by show 1 ≤ sizeLine; decide), fun c hc => ?_⟩
      have s5 := same_new hc (.lst [V.int 0])
      have hc0 : H c = none := by
        cases e : H c with
        | none => rfl
        | some u => have := s4 _ _ (s _ _ e); rw [hc] at this; cases this
      exact q c [0] _ hc0 upd_same (by decide) (by decide) (s.trans (s4.trans s5))
    | cons c0 cr =>
      exact iteT ⟨_, rfl, q l (c0 :: cr) _ hl0 (s4 _ _ h3l) (by simp) cl4 (s.trans s4)⟩
abbrev NW : List Str := ["_law_box_here", "_law_count", "_law_letters", "_law_begun", "_law_by", "_law_tail", "_law_at", "_law_found", "_law_k", "_law_name"]
end
end Rp

set_option maxHeartbeats 8000000
/-! The law's counts and rules. -/
namespace Rp
open PySem PySem.Spec PyProof.Rows L2 TL StX
abbrev KVs := List (L2.Key × V)
def CtE (kv : L2.Key × V) : Prop := ∃ (x : Str) (m : Nat), kv.1 = .inr x ∧ kv.2 = .int (m : Nat) ∧ NameOk x ∧ 1 ≤ m ∧ m ≤ 2
structure CtOk (kvs : KVs) : Prop where
  each : ∀ kv ∈ kvs, CtE kv
  one : 1 ≤ kvs.length
  few : kvs.length ≤ 7
theorem putK_ct {kvs : KVs} (h : ∀ kv ∈ kvs, CtE kv) {k : L2.Key} {v : V} (e : CtE (k, v)) : ∀ kv ∈ putK kvs k v, CtE kv := by
  intro kv hkv
  unfold putK at hkv
  split at hkv
  · obtain ⟨kv0, h0, rfl⟩ := List.mem_map.mp hkv
    by_cases z : kv0.1 = k
    · rw [if_pos z, z]; exact e
    · rw [if_neg z]; exact h _ h0
  · rcases List.mem_append.mp hkv with hkv | hkv
    · exact h _ hkv
    · obtain rfl : kv = (k, v) := by simpa using hkv
      exact e
theorem putK_pos (kvs : KVs) (k : L2.Key) (v : V) : 1 ≤ (putK kvs k v).length ∧ kvs.length ≤ (putK kvs k v).length := by
  unfold putK
  split
  · rename_i h
    rw [List.length_map]
    refine ⟨?_, Nat.le_refl _⟩
    cases kvs with
    | nil => simp at h
    | cons a r => simp
  · rw [List.length_append]; simp
theorem putK_le (kvs : KVs) (k : L2.Key) (v : V) : (putK kvs k v).length ≤ kvs.length + 1 := by
  unfold putK
  split
  · rw [List.length_map]; omega
  · rw [List.length_append]; simp
theorem merge_ct : ∀ {more acc : KVs}, (∀ kv ∈ acc, CtE kv) → (∀ kv ∈ more, CtE kv) → (∀ kv ∈ mergeK acc more, CtE kv) ∧ (mergeK acc more).length ≤ acc.length + more.length ∧ acc.length ≤ (mergeK acc more).length ∧ (1 ≤ more.length → 1 ≤ (mergeK acc more).length)
  | [], acc, h, _ => ⟨h, Nat.le_refl _, Nat.le_refl _, fun z => by simp at z⟩
  | kv :: more, acc, h, h' => by
    have e : mergeK acc (kv :: more) = mergeK (putK acc kv.1 kv.2) more := rfl
    rw [e]
    obtain ⟨i1, i2, i3, i4⟩ := merge_ct (more := more) (acc := putK acc kv.1 kv.2) (putK_ct h (h' kv (by simp))) fun z hz => h' z (by simp [hz])
    have p1 := putK_le acc kv.1 kv.2
    have p2 := putK_pos acc kv.1 kv.2
    exact ⟨i1, by rw [List.length_cons]; omega, by omega, fun _ => by omega⟩
theorem ct_keys : ∀ {kvs : KVs}, (∀ kv ∈ kvs, CtE kv) → ∃ ks : List Str, kvs.map (·.1) = ks.map Sum.inr ∧ ks.length = kvs.length ∧ ∀ x ∈ ks, NameOk x ∧ ∃ m : Nat, valV kvs (.inr x) = some (.int (m : Nat)) ∧ 1 ≤ m ∧ m ≤ 2
  | [], _ => ⟨[], rfl, rfl, by simp⟩
  | kv :: r, h => by
    obtain ⟨ks, e1, e2, e3⟩ := ct_keys (kvs := r) fun z hz => h z (by simp [hz])
    obtain ⟨x, m, h1, h2, h3, h4, h5⟩ := h kv (by simp)
    refine ⟨x :: ks, by rw [List.map_cons, List.map_cons, e1, h1], by simp [e2], fun y hy => ?_⟩
    by_cases z : x = y
    · subst z
      exact ⟨h3, m, by rw [valV_pos h1, h2], h4, h5⟩
    · rcases List.mem_cons.mp hy with hy | hy
      · exact absurd hy.symm z
      · obtain ⟨g1, m', g2, g3⟩ := e3 y hy
        exact ⟨g1, m', by rw [valV_neg (by rw [h1]; exact fun w => z (Sum.inr.inj w))]; exact g2, g3⟩
def spCounts : Sp := fun vs H Q _ => ∃ (b p : Addr) (ws : List Str) (j : Nat), vs = [.ref b, .ref p] ∧ BoxAt H b j ∧ H p = some (.lst (ws.map V.str)) ∧ p ≠ b ∧ 1 ≤ ws.length ∧ ws.length ≤ 7 ∧ (∀ x ∈ ws, NameOk x) ∧ j + 7 ≤ 1000000 ∧
  ∀ (d : Addr) (kvs : KVs) (H' : Hp), H d = none → H' d = some (.dK kvs) → CtOk kvs → BoxAt H' b (j + 7) → But b H H' → Q (.ref d) H'
def rDiv2 : R2 := rI CDiv fun i j => .int (i / j)
theorem op_div2 {X : Cx} : OpR X (binaryOp .FloorDiv) rDiv2 := op_fdiv
def tePair : TE := tTup (tCons (tVar 2) (tCons (tOp rAddI (tC (.int 1)) (tOp rDiv2 (tCall spTake [] E0 (tCons (tVar 0) (tCons (tC (.int 3)) tNil))) (tC (.int 2)))) tNil))
def PairsAt (H : Hp) : List Addr → KVs → Prop
  | [], [] => True
  | p :: ps, kv :: kvs => H p = some (.tup [kV kv.1, kv.2]) ∧ PairsAt H ps kvs
  | _, _ => False
theorem PairsAt.mono {H H' : Hp} (e : ∀ a xs, H a = some (.tup xs) → H' a = some (.tup xs)) : ∀ {ps : List Addr} {kvs : KVs}, PairsAt H ps kvs → PairsAt H' ps kvs
  | [], [], _ => trivial
  | _ :: _, _ :: _, h => ⟨e _ _ h.1, PairsAt.mono e h.2⟩
theorem PairsAt.len {H : Hp} : ∀ {ps : List Addr} {kvs : KVs}, PairsAt H ps kvs → ps.length = kvs.length
  | [], [], _ => rfl
  | _ :: _, _ :: _, h => congrArg (· + 1) (PairsAt.len h.2)
theorem PairsAt.snoc {H : Hp} {p : Addr} {kv : L2.Key × V} (hp : H p = some (.tup [kV kv.1, kv.2])) : ∀ {ps : List Addr} {kvs : KVs}, PairsAt H ps kvs → PairsAt H (ps ++ [p]) (kvs ++ [kv])
  | [], [], _ => ⟨hp, trivial⟩
  | _ :: _, _ :: _, h => ⟨h.1, PairsAt.snoc hp h.2⟩
theorem PairsAt.paired {K : PySem.W.Frag} {H : Hp} : ∀ {ps : List Addr} {kvs : KVs}, PairsAt H ps kvs → Paired (fun p (kv : L2.Key × V) => SqT K H p [kV kv.1, kv.2]) ps kvs
  | [], [], _ => .nil
  | _ :: _, _ :: _, h => .cons (.inl (.inl h.1)) (PairsAt.paired h.2)
section
variable {P : Program} {w : World} {K : PySem.W.Frag} {mg : Str → Option Value} {base : Heap}
end
end Rp

set_option maxHeartbeats 8000000
/-! The law's rules. -/
namespace Rp
open PySem PySem.Spec PyProof.Rows L2 TL StX
theorem AtAt.box {H H' : Hp} {b : Addr} {v : V} {a : At} {j : Nat} (T : AtAt H v a) (o : But b H H') (B : BoxAt H b j) : AtAt H' v a := by
  obtain ⟨ys, hb⟩ := B.some
  exact atAt_mono (fun a xs z => o _ _ z (ne_of z hb (by intro e; cases e))) T
theorem AtsAt.box {H H' : Hp} {b : Addr} {xs : List V} {as : List At} {j : Nat} (T : AtsAt H xs as) (o : But b H H') (B : BoxAt H b j) : AtsAt H' xs as := by
  obtain ⟨ys, hb⟩ := B.some
  exact T.mono fun a xs z => o _ _ z (ne_of z hb (by intro e; cases e))
def spLRule : Sp := fun vs H Q _ => ∃ (b d : Addr) (kvs : KVs) (j : Nat), vs = [.ref b, .ref d] ∧ BoxAt H b j ∧ H d = some (.dK kvs) ∧ CtOk kvs ∧ j + 20 ≤ 1000000 ∧
  ∀ (v : V) (r : Ru) (H' : Hp), RuAt H' v r → RuOk r → BoxAt H' b (j + 20) → But b H H' → Q v H'
def teArg : TE := tCall spTake [] E0 (tCons (tVar 0) (tCons (tVar 5) tNil))
section
variable {P : Program} {w : World} {K : PySem.W.Frag} {mg : Str → Option Value} {base : Heap}
abbrev NRu : List Str := ["_law_box_here", "_law_counts_here", "_law_words_here", "_law_word", "_law_head_here", "_law_count", "_law_body", "_law_turn", "_law_other", "_law_place"]
end
end Rp

namespace Rp
open PySem L2
section
variable {P : Program} {w : World} {K : PySem.W.Frag} {mg : Str → Option Value} {base : Heap}
theorem scVars : FnScope ["term", "part"] ["term"] (defScope sVars) := ⟨rfl, rfl, rfl, by decide +kernel, rfl, by decide +kernel, by decide +kernel⟩
theorem back_len (t : Tm) : t.rpost.reverse.length = t.size := by rw [List.length_reverse, Tm.rpost_len]
theorem ok_vars {f fI : Addr} {fd fdI : FuncData} (F : Fun K "variables" "variables" sVars f fd) (GI : FnOk P w K mg base CX0 2 fI fdI ["term"] spInside) (kI : PySem.W.keepIn K (.ref fI) = true) (bI : Binds K fdI ["term"] []) (mI : mg "inside_out" = some (.ref fI))
    (mSorted : mg "sorted" = none) (mIsi : mg "isinstance" = none) (mInt : mg "int" = none) : FnOk P w K mg base CX0 3 f fd ["term"] spVars := by
  refine F.ok scVars (fun vs H Q E h => ?_) (fun cdv A outer s H vs Q E hr h => ?_)
  · obtain ⟨v, t, rfl, _⟩ := h
    rfl
  obtain ⟨v, t, rfl, T, hz, q⟩ := h
  refine ⟨_, pss_one (ps_ret (pe_callB (cr_sortedSet rfl) (by rfl) mSorted (by decide +kernel) (pa_cons (pe_scI (own := [("part", 1)]) (g := gName 1) (tt := tB (tCB (rIsi K) (tCons (tVar 1) (tCons (tC (.ty "int")) tNil)))) (te := tVar 1) rfl scVars.nd
      (pi_list (pe_call GI hr rfl mI kI bI .nil pass0 (pa_cons (pv 0) pa_nil))) (blkOk_by (N := ["term", "part"]) (sc := defScope sVars) (by decide +kernel)) (fun _ _ _ _ _ => pg_name (i := 1) scVars.nd rfl (Or.inl rfl))
      (fun _ _ _ _ _ => pts_one (pt_val (pe_callB (id := "isinstance") call_isi (by rfl) mIsi (by decide +kernel) (pa_cons (pv 1) (pa_cons (pe_bltn (v := .ty "int") (by rfl) mInt (by decide +kernel) rfl) pa_nil)))))
      (fun _ _ _ _ _ => pv 1)) pa_nil))), ?_⟩
  refine ⟨_, rfl, v, t, rfl, T, by omega, fun p xs H1 hp h A s1 => ?_⟩
  refine ⟨p, rfl, ⟨xs, .inl (.inl h)⟩, fun D hD => scI_list (K := K) (a := p) (xs := xs) (fun i H2 => ∃ (S : Int → Bool) (n : Nat), H2 D = some (SetO w D S n) ∧ n ≤ i ∧ (∀ k, S k = true ↔ Tm.v k ∈ t.rpost.reverse.take i) ∧
    (∀ b o, H1 b = some o → H2 b = some o)) ⟨_, 0, upd_same, Nat.le_refl _, fun k => by simp, fun b o z => by rw [upd_ne (ne_of_none z hD)]; exact z⟩ (fun i H2 _ ⟨_, _, _, _, _, z⟩ => .inl (.inl (z _ _ h))) ?_ ?_⟩
  · rintro i x H2 hi ⟨S, n, hS, hn, hm, hk⟩
    obtain ⟨k, hk1, Tk⟩ := A.get hi
    have lt : i < t.size := by rw [← back_len t, ← A.len]; exact (List.getElem?_eq_some_iff.mp hi).1
    have tk : t.rpost.reverse.take (i + 1) = t.rpost.reverse.take i ++ [k] := by rw [List.take_add_one, hk1]; rfl
    have Tk2 := Tk.mono (H' := H2) fun a ys z => hk _ _ z
    rcases Tk2.ty (K := K) with ⟨m, rfl, rfl⟩ | ⟨a, ys, rfl, ha, ty, no⟩
    · refine ⟨rfl, _, rfl, _, _, _, _, true, rfl, .ty "int", .base (.int m), kit_ii, true, rfl, iteT ?_⟩
      refine ⟨_, rfl, m, S, n, rfl, hS, (Nat.lt_of_le_of_lt (by omega : n + 1 ≤ 100) (by decide : 100 < scanBound)), ?_⟩
      refine ⟨_, _, upd_same, ?_, fun k => ?_, fun b o z => ?_⟩
      · split <;> omega
      · rw [tk, List.mem_append, ← hm k]
        simp
      · have nb : b ≠ D := fun e => by subst e; rw [hD] at z; cases z
        rw [upd_ne nb]
        exact hk b o z
    · refine ⟨rfl, _, rfl, _, _, _, _, false, rfl, .ty "int", ty, kit_ti, false, rfl, iteF ?_⟩
      refine ⟨S, n, hS, by omega, fun k' => ?_, hk⟩
      rw [tk, List.mem_append, ← hm k']
      simp
      intro e
      exact absurd e.symm (no k')
  · rintro H2 ⟨S, n, hS, hn, hm, hk⟩
    refine ⟨D, S, n, rfl, hS, ?_, fun ns p2 up mem len hp2 => ?_⟩
    · have := A.len
      rw [back_len] at this
      omega
    · refine q p2 ns _ ?_ upd_same up (fun k => ?_) ?_
      · exact s1.free (Same.free (H := H1) hk hp2)
      · rw [mem k, hm k, List.take_of_length_le (by rw [A.len]; exact Nat.le_refl _), List.mem_reverse, Tm.mem_rpost]
      · exact s1.trans (Same.trans (H1 := H2) hk (same_new hp2 _))
end
end Rp

/-! Tuples that are known to be plain (they bear no dict of their own), made by tuple(list) and by a display; dict(t) of such a tuple of pairs. -/
namespace Rp
open PySem PySem.Spec PyProof.Rows L2
/-- a plain tuple stands at a -/
def PlT (H : Hp) (a : Addr) (xs : List V) : Prop := ∃ o : Obj, o.dict = none ∧ H a = some (.frz o (.tup xs))
theorem PlT.sq {K : PySem.W.Frag} {H : Hp} {a : Addr} {xs : List V} (h : PlT H a xs) : SqT K H a xs := let ⟨o, _, e⟩ := h; .inl (.inr ⟨o, e⟩)
theorem PlT.same {H H' : Hp} {a : Addr} {xs : List V} (e : Same H H') (h : PlT H a xs) : PlT H' a xs := let ⟨o, d, q⟩ := h; ⟨o, d, e _ _ q⟩
theorem PlT.mono {H H' : Hp} {a : Addr} {xs : List V} (e : ∀ o, H a = some (.frz o (.tup xs)) → H' a = some (.frz o (.tup xs))) (h : PlT H a xs) : PlT H' a xs := let ⟨o, d, q⟩ := h; ⟨o, d, e _ q⟩
section
variable {X : Cx}
def rTupF (K : PySem.W.Frag) : List V → Hp → VK → Prop := fun vs H Q => ∃ (p : Addr) (ys : List V), vs = [.ref p] ∧ SqL K H p ys ∧ ∀ (l : Addr) (o : Obj), o.dict = none → H l = none → Q (.ref l) (upd H l (.frz o (.tup ys)))
theorem cr_tupF : CallR X (.type "tuple") (rTupF X.K) := by
  intro pins s σ H vs us Q I r h
  obtain ⟨p, ys, rfl, hq, q⟩ := h
  rw [Vals.ref1 r]
  obtain ⟨its, rv, pl, hz⟩ := I.list hq
  have few := rv.length
  refine call_tuple_list pl.isList (fun g old => ?_) (by simp only [List.size_toArray] <;> omega)
  have J : Inv X pins σ H { s with heap := g } := I.kept (t' := s.toks) old
  have there : (g.push { cls := .type "tuple", data := .seq its.toArray }).get? g.objs.size = some { cls := .type "tuple", data := .seq its.toArray } := Heap.get?_push_size _ rfl
  exact ⟨.ref g.objs.size, _, J.laid (t' := s.toks) (o := .frz { cls := .type "tuple", data := .seq its.toArray } (.tup ys)) (fun b o e => Heap.get?_push_of_some _ e) (Nat.le_refl _) ⟨there, hz, its, rv, IsTup.new _ _⟩, rfl,
    q _ _ rfl (J.hok.fresh (Nat.le_refl _))⟩
/-- (e, ..), told to be plain -/
def tTupF (t : TA) : TE := fun σ H Q => t σ H fun xs H1 => xs.length ≤ sizeLine ∧ ∀ (p : Addr) (o : Obj), o.dict = none → H1 p = none → Q (.ref p) (upd H1 p (.frz o (.tup xs)))
theorem pe_tupF {es : List Expr} {t : TA} {x1 : Nat} {pos : Pos} (h : PA X es t) : PE X (.Tuple es x1 pos) (tTupF t) := by
  refine ⟨fun pins s σ H Q I hq => wpAny_Tuple_spliced (thn (h.run pos pins s σ H _ I hq) fun us s1 ⟨xs, H1, I1, r, z, q⟩ => ⟨by rw [← r.length]; exact z, ?_⟩)⟩
  have at_ : (s1.heap.push { cls := .type "tuple", data := .seq us.toArray }).get? s1.heap.objs.size = some { cls := .type "tuple", data := .seq us.toArray } := Heap.get?_push_size _ rfl
  exact ⟨.ref s1.heap.objs.size, _, I1.laid (t' := s1.toks) (o := .frz { cls := .type "tuple", data := .seq us.toArray } (.tup xs)) (fun b u e => Heap.get?_push_of_some _ e) (Nat.le_refl _) ⟨at_, z, us, r, ⟨_, at_, rfl, _, rfl⟩⟩, rfl,
    q _ _ rfl (I1.hok.fresh (Nat.le_refl _))⟩
theorem raw_pairs {pins : List (Addr × Obj)} {σ : L2.St} {H : Hp} {s : Shared} (I : Inv X pins σ H s) : ∀ {ps : List Addr} {kvs : List (Key × V)}, Paired (fun p (kv : Key × V) => SqT X.K H p [kV kv.1, kv.2]) ps kvs →
    ∃ (prs : List (Key × Value)) (raw : List (Value × Value)), KV kvs prs ∧ raw.length = ps.length ∧ prs.length = ps.length ∧ ∀ j : Nat, j < ps.length → ∃ (b : Addr) (k : Key) (u x : Value), ps[j]? = some b ∧ prs[j]? = some (k, x) ∧ raw[j]? = some (u, x) ∧ IsTup s.heap b #[u, x] ∧ keyIs k u = true
  | _, _, .nil => ⟨[], [], .nil, rfl, rfl, fun j h => absurd h (Nat.not_lt_zero _)⟩
  | _, _, .cons (a := p) (b := kv) h t => by
    obtain ⟨prs, raw, r, l1, l2, each⟩ := raw_pairs I t
    obtain ⟨its, rv, ht, _⟩ := I.tuple h
    obtain ⟨u, y, rfl, ru, ry⟩ := vals2 rv
    refine ⟨(kv.1, y) :: prs, (u, y) :: raw, .cons ⟨rfl, ry⟩ r, congrArg (· + 1) l1, congrArg (· + 1) l2, fun j hj => ?_⟩
    cases j with
    | zero => exact ⟨p, kv.1, u, y, rfl, rfl, rfl, ht, kV_is (P := X.prog) (w := X.w) ru⟩
    | succ j => exact each j (Nat.lt_of_succ_lt_succ hj)
def rDictT (K : PySem.W.Frag) : List V → Hp → VK → Prop := fun vs H Q => ∃ (a : Addr) (ps : List Addr) (kvs : List (Key × V)), vs = [.ref a] ∧ PlT H a (ps.map V.ref) ∧ Paired (fun p (kv : Key × V) => SqT K H p [kV kv.1, kv.2]) ps kvs ∧
  ∀ p, H p = none → Q (.ref p) (upd H p (.dK (mergeK [] kvs)))
theorem cr_dictT (calm : X.calm = true) : CallR X (.type "dict") (rDictT X.K) := by
  intro pins s σ H vs us Q I r told
  obtain ⟨a, ps, kvs, rfl, ⟨o, od, ha⟩, pairs, go⟩ := told
  rw [Vals.ref1 r]
  obtain ⟨ho, hz, its, rv, oo, ho', hc, n, hd⟩ := (show ObjOk X.prog X.w H s.heap a (.frz o (.tup (ps.map V.ref))) from I.hok a _ ha)
  obtain rfl : o = oo := Option.some.inj (ho.symm.trans ho')
  have ei := refs_at rv
  subst ei
  obtain ⟨prs, raw, rel, l1, l2, each⟩ := raw_pairs I pairs
  rw [List.length_map] at hz
  have items : PairItems s.heap (ps.map Value.ref).toArray (fun j => ps.getD j 0) raw := by
    refine ⟨by simp [l1], fun j k v e => ?_⟩
    have lj : j < ps.length := by rw [← l1]; exact (List.getElem?_eq_some_iff.mp e).1
    obtain ⟨b, k', u, x, e1, e2, e3, e4, e5⟩ := each j lj
    obtain ⟨rfl, rfl⟩ : k = u ∧ v = x := by rw [e] at e3; cases e3; exact ⟨rfl, rfl⟩
    have gd : ps.getD j 0 = b := by rw [List.getD_eq_getElem?_getD, e1]; rfl
    refine ⟨by simp [e1, gd], .inl ?_⟩
    show s.heap.IsTuple (ps.getD j 0) #[k, v]
    rw [gd]
    exact e4
  refine PySem.call_dict_pairs (knd := mixKind X.prog X.w) (kvs := prs) (PairArg.tuple a _ _ raw) (I.ok.hd calm) ⟨⟨o, n, ho, hc, od, hd⟩, items⟩ ?_ (by omega) fun g tk now old => ?_
  · refine ⟨by omega, fun j k v e => ?_⟩
    have lj : j < ps.length := by rw [← l1]; exact (List.getElem?_eq_some_iff.mp (show raw[j]? = some (k, v) from e)).1
    obtain ⟨b, k', u, x, e1, e2, e3, e4, e5⟩ := each j lj
    obtain ⟨rfl, rfl⟩ : k = u ∧ v = x := by
      have e : raw[j]? = some (k, v) := e
      rw [e] at e3; cases e3; exact ⟨rfl, rfl⟩
    exact ⟨k', e2, e5⟩
  · have hm : (s.heap.objs.size == sysModules) = false := beq_eq_false_iff_ne.mpr (Nat.ne_of_gt I.big)
    have len : (mergeK [] kvs).length ≤ sizeLine := by
      have q := length_mergeK kvs []
      have z := rel.length
      rw [List.length_nil] at q
      omega
    exact ⟨.ref s.heap.objs.size, _, I.laid (t' := tk) (o := .dK (mergeK [] kvs)) (fun b u e => old b u (by simp) e) (Nat.le_refl _) ⟨len, hm, merged [] prs, KV.merge rel .nil, now⟩, rfl, go _ (I.hok.fresh (Nat.le_refl _))⟩
end
end Rp

/-! A def within a def, handed to another def and called there: what its cells hold is known where that def is called, and stays so while it runs. -/
namespace Rp
open PySem PySem.Spec PyProof.Rows L2 NdefX LamX
/-- what the cells of Fn hold, and that they are no caller's frame -/
def Held1 (cl : List (Str × Addr)) (fr : List Str) (ws : List (Option V)) (outer : List Env) (s : Shared) (H : Hp) : Prop := CellsAt cl fr ws s.heap H ∧ ∀ y c, cl.lookup y = some c → c ∉ frs outer
/-- a def's promise, kept where R is known of the caller's state -/
structure QnOk (P : Program) (w : World) (K : PySem.W.Frag) (mg : Str → Option Value) (base : Heap) (k : Nat) (f : Addr) (fd : FuncData) (ps : List Str) (R : List Env → Shared → Hp → Prop) (sp : Sp) : Prop where
  len : ∀ vs H Q E, sp vs H Q E → vs.length = ps.length
  run : ∀ (A : Around) (outer : List Env) (s : Shared) (H : Hp) (args : Args) (us : List Value) (vs : List V) (Q : VK) (E : XK), R outer s H → Room k A → Env0 P w K mg base A outer s H → BindsTo s fd args (ps.zip us) → Vals vs us → sp vs H Q E →
    codeAny (model P w) A (.call (.ref f) args) (CR CX0 outer P w H s Q E) s
section
variable {P : Program} {w : World} {K : PySem.W.Frag} {mg : Str → Option Value} {base : Heap}
/-- a def by its body, R told of the caller's state -/
theorem qok {x qual : Str} {st : Stmt} {f : Addr} {fd : FuncData} {N ps : List Str} {k : Nat} {R : List Env → Shared → Hp → Prop} {sp : Sp} (F : Fun K x qual st f fd) (S : FnScope N ps (defScope st)) (len : ∀ vs H Q E, sp vs H Q E → vs.length = ps.length)
    (walk : ∀ (cdv : Value) (A : Around) (outer : List Env) (s : Shared) (H : Hp) (vs : List V) (Q : VK) (E : XK), R outer s H → Room k (A.deeper (envOfC qual (defScope st) s.heap.objs.size f cdv)) → sp vs H Q E →
      ∃ t, PSs (cxOf CX0 P w K mg base N qual (defScope st) f cdv A outer s H E).nox (defBody st) t ∧ t { nx := fun _ H' => Q .non H', rt := Q } (start N vs) H) : QnOk P w K mg base (k + 1) f fd ps R sp := by
  obtain ⟨oc, od, kV, doc, pm, an, cdv, ct, osl, rfl, lk, hcd⟩ := F.ex
  refine ⟨len, fun A outer s H args us vs Q E hR hr e0 hb r hsp => ?_⟩
  have K0 : K.In s.heap := e0.mod.kin.keeps fun b o e => (e0.bs b o e).1
  have L0 : s.heap.NoLimit := e0.mod.nolimit.keeps fun b o e => (e0.bs b o e).1
  have each : ∀ y ∈ ps.zip us, (defScope st).names.lookup y.1 = some .local ∨ ((defScope st).names.lookup y.1 = some .cell ∧ ((cellsFrom (s.heap.objs.size + 1) (defScope st).names []).lookup y.1).isSome = true) := by
    rintro ⟨n, v⟩ hy
    exact (S.par n (List.of_mem_zip hy).1).imp id fun q => ⟨q, PySem.W.cellsFrom_some _ _ _ (.inl q)⟩
  refine codeAny_call_function hr.depth (K0 _ _ lk) rfl S.co S.gen rfl (PySem.W.codeRec_of K0 hcd) (hb _ _ _ _ (wpAny_newFunctionEnv_cells S.kind each fun env he s1 z => ?_))
  subst he
  refine ⟨L0.keeps z.toInCall.keep, codeAny_func ?_⟩
  obtain ⟨t, ht, hq⟩ := walk cdv A outer s H vs Q E hR (hr.deeper _) hsp
  have I : L2.Inv (cxOf CX0 P w K mg base N qual (defScope st) f cdv A outer s H E) [] (start N vs) H s1 := inv_start S hr.hd e0 (len _ _ _ _ hsp) r z
  refine wpAny_mono (ht.nox.run [] s1 (start N vs) H _ I hq) (fun fl s' hs => ?_) fun e s' hs => hs
  rcases fl with _ | _ | _ | u
  · obtain ⟨_, H', J, q⟩ := hs
    exact ⟨V.non, H', J.os, J.bare, J.base, J.hok, rfl, q⟩
  · exact hs.choose_spec.choose_spec.2.elim
  · exact hs.choose_spec.choose_spec.2.elim
  · obtain ⟨v, _, H', J, rv, q⟩ := hs
    exact ⟨v, H', J.os, J.bare, J.base, J.hok, rv, q⟩
end
section
variable {X : Cx} {k j i : Nat} {f : Addr} {fd : FuncData} {ps fr : List Str} {E : XK} {x : Str} {p pos : Pos} {e : Expr} {es : List Expr} {t : TA} {cl : List (Str × Addr)} {js : List Nat}
/-- a cell of the running frame is no caller's frame -/
theorem cells_apart {pins : List (Addr × Obj)} {σ : L2.St} {H : Hp} {s : Shared} (I : L2.Inv X pins σ H s) (stk : X.stack = X.env :: X.outer ∧ X.env.frame = some X.env.locals) (fn : ∀ y, X.fn y = true) (low : ∀ b ∈ frs X.outer, b < X.s_0.heap.objs.size) {y : Str} {c : Addr} (hc : X.env.cells.lookup y = some c) : c ∉ frs X.stack := by
  intro hm
  rw [stk.1] at hm
  have hm : c ∈ (X.env :: X.outer).filterMap (·.frame) := hm
  rw [List.filterMap_cons, stk.2] at hm
  rcases List.mem_cons.mp hm with e | hm
  · obtain ⟨m, ⟨o, es, ep, h1, h2, _⟩, _⟩ := I.loc
    obtain ⟨v, o', h1', h2'⟩ := I.cell y c hc
    rw [e, h1] at h1'
    cases h1'
    rw [h2] at h2'
    cases h2'
  · have a := low c hm
    have b := I.ok.cab y c (fn y) hc
    exact absurd a (Nat.not_lt.mpr b)
theorem low_frames {h base : Heap} {l : List Env} (hf : Heap.FunFrames h base l) : ∀ b ∈ frs l, b < h.objs.size := fun b hb => by
  obtain ⟨_, o, ho, _⟩ := hf.mem hb
  exact Heap.lt_size ho
/-- f(e, ..), f a def of the module that wants to know what a handed def's cells hold -/
def tCallQ (sp : Addr → Addr → List (Option V) → Sp) (js : List Nat) (E : XK) (t : TA) : TE := fun σ H Q => t σ H fun vs H1 => ∃ g c', sp g c' (js.map (slotAt σ)) vs H1 Q E
theorem pe_callQ {sp : Addr → Addr → List (Option V) → Sp} (F : ∀ g c' ws, QnOk X.prog X.w X.K X.mg X.base k f fd ps (Held1 cl fr ws) (sp g c' ws)) (cp : X.Ok → Caps X cl fr js) (stk : X.stack = X.env :: X.outer ∧ X.env.frame = some X.env.locals) (fn : ∀ y, X.fn y = true)
    (hr : Room k X.A) (hg : Gl X x) (hm : X.mg x = some (.ref f)) (hk : PySem.W.keepIn X.K (.ref f) = true) (hb : Binds X.K fd ps []) (ha : PA X (e :: es) t)
    (hdb : (x == ("__debug__" : Str)) = false := by decide) (he : starEach (e :: es) X.env = (false, eval e X.env) :: starEach es X.env := by rfl) (hpl : (backTo pos (starEach es X.env)).any (·.1) = false := by rfl) :
    PE X (.Call (.Name x p) (e :: es) [] pos) (tCallQ sp js E0 t) := by
  refine ⟨fun pins s σ H Q I h => wpAny_Call_Name_kw (ld_glob I hg hm ?_ hdb)⟩
  refine PySem.W.callWith_K (h₀ := X.base) I.ok.mod.kin hk (thn (ha.run pos pins s σ H _ I h) fun us s1 ⟨vs, H1, I1, r, g, c', q⟩ => ⟨I1.kIn, ?_⟩) he hpl
  have hl : us.length = ps.length := r.length.symm.trans ((F g c' _).len _ _ _ _ q)
  have hb' := hb s1 us I1.kIn (by rw [List.append_nil]; exact hl)
  rw [List.append_nil] at hb'
  have held : Held1 cl fr (js.map (slotAt σ)) X.stack s1 H1 := ⟨cells_of I1 (cp I1.ok), fun y c hc => cells_apart I1 stk fn (low_frames I1.ok.funs) ((cp I1.ok).sub y c hc)⟩
  refine wpAny_call (codeAny_mono ((F g c' _).run X.A X.stack s1 H1 ⟨us, []⟩ us vs Q E0 held hr I1.env0 hb' r q) fun r' s' hq => ?_)
  rcases r' with e' | fl
  · exact hq.elim
  · rcases fl with _ | _ | _ | u
    · exact hq.elim
    · exact hq.elim
    · exact hq.elim
    · exact I1.after hq
/-- f(e, ..), f a local name that holds a handed def; what its cells hold was known at this def's own start -/
def tCallV (i : Nat) (g : Addr) (Fn : NF) (ws : List (Option V)) (sp : List (Option V) → Sp) (E : XK) (t : TA) : TE := fun σ H Q => σ[i]? = some (some (.ref g)) ∧ H g = some (FnO g Fn) ∧ t σ H fun vs H1 => H1 g = some (FnO g Fn) ∧ H1 Fn.c = some (CodeO Fn.c Fn.qual) ∧ sp ws vs H1 Q E
theorem pe_callV {Fn : NF} {g : Addr} {ws : List (Option V)} {sp : List (Option V) → Sp} (N : NOk X.prog X.w X.K X.mg X.base CX0 k g Fn ps fr sp) (held : Held1 Fn.cl fr ws X.outer X.s_0 X.H_0) (exn : X.ex = []) (hr : Room k X.A) (hN : X.N[i]? = some x) (hv : Vis X.env.scope x) (ha : PA X (e :: es) t)
    (hd : (x == ("__debug__" : Str)) = false := by decide) (hcd : (x == ("__classdict__" : Str)) = false := by decide)
    (he : starEach (e :: es) X.env = (false, eval e X.env) :: starEach es X.env := by rfl) (hpl : (backTo pos (starEach es X.env)).any (·.1) = false := by rfl) : PE X (.Call (.Name x p) (e :: es) [] pos) (tCallV i g Fn ws sp E0 t) := by
  refine ⟨fun pins s σ H Q I h => ?_⟩
  obtain ⟨hs, hf, ht⟩ := h
  refine wpAny_Call_Name_kw (thn ((pe_var (pos := p) hN hv hd hcd).run pins s σ H (fun v H1 => v = .ref g ∧ H1 = H) I ⟨.ref g, hs, rfl, rfl⟩) fun u s1 ⟨v, H1, I1, rel, ev, eH⟩ => ?_)
  subst ev
  rw [eH] at I1
  obtain rfl : u = Value.ref g := rel
  refine PySem.W.callWith_F (first := []) (fnAt_of I1 hf) (thn (ha.run pos pins s1 σ H _ I1 ht) fun us s2 ⟨vs, H2, I2, r, h1, h2, q⟩ => ⟨fnAt_of I2 h1, ?_⟩) he hpl
  show wpAny _ _ (call (.ref g) us) _ _ _
  have C : CellsAt Fn.cl fr ws s2.heap H2 := held.1.later held.2 (fun y c _ => by rw [exn]; simp) I2
  refine wpAny_call (codeAny_mono (N.run X.A X.stack s2 H2 us vs ws Q E0 hr I2.env0 h1 h2 C r q) fun r' s' hq => ?_)
  rcases r' with e' | fl
  · exact hq.elim
  · rcases fl with _ | _ | _ | u
    · exact hq.elim
    · exact hq.elim
    · exact hq.elim
    · exact I2.after hq
end
end Rp

/-! put: a dict of the BINDING, a def within the def that knows it, folded. -/
namespace Rp
open PySem PySem.Spec PyProof.Rows L2 TL NdefX LamX StX
abbrev Bd := List (Int × Tm)
namespace Tm
def put (b : Bd) : Tm → Tm
  | v n => (b.lookup n).getD (v n)
  | z => z
  | s t => s (t.put b)
  | f l r => f (l.put b) (r.put b)
end Tm
/-- what a dict of a BINDING tells -/
def DbAt (H : Hp) (kvs : List (Key × V)) (bd : Bd) : Prop := ∀ n : Int, (∃ v t, valV kvs (Sum.inl n) = some v ∧ bd.lookup n = some t ∧ TmAt H v t) ∨ (valV kvs (Sum.inl n) = none ∧ bd.lookup n = none)
theorem DbAt.mono {H H' : Hp} {kvs : List (Key × V)} {bd : Bd} (e : ∀ a xs, H a = some (.tup xs) → H' a = some (.tup xs)) (D : DbAt H kvs bd) : DbAt H' kvs bd :=
  fun n => (D n).imp (fun ⟨v, t, a, b, c⟩ => ⟨v, t, a, b, c.mono e⟩) id
/-- pairs of a variable and a TERM -/
def PrAt (H : Hp) (p : Addr) (kv : Int × Tm) : Prop := ∃ x, H p = some (.tup [.int kv.1, x]) ∧ TmAt H x kv.2
theorem PrAt.mono {H H' : Hp} {p : Addr} {kv : Int × Tm} (e : ∀ a xs, H a = some (.tup xs) → H' a = some (.tup xs)) : PrAt H p kv → PrAt H' p kv := fun ⟨x, h, t⟩ => ⟨x, e _ _ h, t.mono e⟩
/-- a BINDING: a plain tuple of pairs, its variables unlike -/
def BdAt (H : Hp) (a : Addr) (bd : Bd) : Prop := ∃ ps : List Addr, PlT H a (ps.map V.ref) ∧ Paired (PrAt H) ps bd ∧ (bd.map (·.1)).Nodup ∧ bd.length ≤ 1000
/-- all tuples stay, plain ones too -/
def Tups (H H' : Hp) : Prop := (∀ a xs, H a = some (.tup xs) → H' a = some (.tup xs)) ∧ ∀ a o xs, H a = some (.frz o (.tup xs)) → H' a = some (.frz o (.tup xs))
theorem Tups.same {H H' : Hp} (e : Same H H') : Tups H H' := ⟨fun _ _ h => e _ _ h, fun _ _ _ h => e _ _ h⟩
theorem Tups.ext {H H' : Hp} (e : ExtN H H') : Tups H H' := ⟨fun _ _ h => e _ _ h (fun _ z => by cases z), fun _ _ _ h => e _ _ h (fun _ z => by cases z)⟩
theorem Tups.but {H H' : Hp} {b : Addr} {ys : List V} (e : But b H H') (hb : H b = some (.lst ys)) : Tups H H' :=
  ⟨fun _ _ h => e _ _ h (ne_of h hb (by intro z; cases z)), fun _ _ _ h => e _ _ h (ne_of h hb (by intro z; cases z))⟩
theorem Tups.trans {H H1 H2 : Hp} (a : Tups H H1) (b : Tups H1 H2) : Tups H H2 := ⟨fun _ _ h => b.1 _ _ (a.1 _ _ h), fun _ _ _ h => b.2 _ _ _ (a.2 _ _ _ h)⟩
theorem BdAt.mono {H H' : Hp} {a : Addr} {bd : Bd} (e : Tups H H') : BdAt H a bd → BdAt H' a bd :=
  fun ⟨ps, h, p, nd, z⟩ => ⟨ps, h.mono fun o => e.2 _ _ _, L2.Paired.mapP p fun _ _ q => q.mono e.1, nd, z⟩
/-- the inner def -/
abbrev sEx : Stmt := (defBody sPut).getD 1 (.Pass ⟨0, 0, 0, 0⟩)
abbrev qEx : Str := ("put" : Str) ++ ".<locals>." ++ "exchanged"
abbrev nfEx (cl : List (Str × Addr)) (c : Addr) : NF := NF.of sEx "exchanged" qEx cl c
abbrev nmEx : Nat → Nat → Str := fun _ _ => qEx
abbrev NEx : List Str := ["part", "below", "found"]
def spEx (ws : List (Option V)) : Sp := fun vs H Q _ => ∃ (x : V) (k : Tm) (l D : Addr) (ks : List V) (bd : Bd) (kvs : List (Key × V)), vs = [x, .ref l] ∧ ws = [some (.ref D)] ∧ TmAt H x k ∧ H l = some (.lst ks) ∧ AllAt H ks (k.kids.map (Tm.put bd)) ∧
  H D = some (.dK kvs) ∧ DbAt H kvs bd ∧ ∀ (v : V) (H' : Hp), TmAt H' v (k.put bd) → Same H H' → Q v H'
section
variable {P : Program} {w : World} {K : PySem.W.Frag} {mg : Str → Option Value} {base : Heap}
theorem scEx (cl : List (Str × Addr)) (c : Addr) : NScope NEx ["part", "below"] ["found"] (nfEx cl c).scope := nscope_by (show nscB NEx ["part", "below"] ["found"] (C8.fnScope sEx) = true by decide +kernel)
theorem ok_ex {g c : Addr} {cl : List (Str × Addr)} (mIsi : mg "isinstance" = none) (mInt : mg "int" = none) : NOk P w K mg base CX0 1 g (nfEx cl c) ["part", "below"] ["found"] spEx := by
  refine nok_of (scEx cl c) (fun _ _ _ us hl => match us, hl with | [_, _], _ => rfl) (fun ws vs H Q E h => ?_) (fun A outer s H vs ws Q E hr hf hc hl h => ?_)
  · obtain ⟨x, k, l, D, ks, bd, kvs, rfl, _⟩ := h
    rfl
  obtain ⟨x, k, l, D, ks, bd, kvs, rfl, rfl, T, h1, A1, hD, DB, q⟩ := h
  have hu := hu_of hr
  refine ⟨_, pss_cons (ps_if (pt_val (pe_callB call_isi (by rfl) mIsi (by decide +kernel) (pa_cons (pv 0) (pa_cons (pe_bltn (v := .ty "int") (by rfl) mInt (by decide +kernel) rfl) pa_nil))))
      (pss_one (ps_ret (pe_dget2 hu (pv 2) (pv 0) (pv 0) ⟨rfl, rfl, rfl, rfl⟩))) pss_nil)
    (pss_one (ps_ret (pe_tup (pa_cons (pe_ix ix_tup (pv 0) pe_int (fun _ _ => rfl)) (pa_star (pv 1) pa_nil))))), ?_⟩
  rcases T.ty (K := K) with ⟨m, rfl, rfl⟩ | ⟨a, xs, rfl, ha, ty, no⟩
  · refine ⟨_, rfl, _, _, _, _, true, rfl, .ty "int", .base (.int m), kit_ii, true, rfl, iteT ?_⟩
    refine ⟨_, rfl, D, rfl, .inl ⟨_, .inl hD⟩, _, rfl, _, rfl, ?_⟩
    rcases DB m with ⟨v, t, e1, e2, T'⟩ | ⟨e1, e2⟩
    · refine ⟨some v, .inl ⟨kvs, Sum.inl m, .inl hD, rfl, e1.symm⟩, q v H ?_ fun _ _ z => z⟩
      show TmAt H v ((bd.lookup m).getD (.v m))
      rw [e2]
      exact T'
    · refine ⟨none, .inl ⟨kvs, Sum.inl m, .inl hD, rfl, e1.symm⟩, q _ H ?_ fun _ _ z => z⟩
      show TmAt H (.int m) ((bd.lookup m).getD (.v m))
      rw [e2]
      exact .v m
  · obtain ⟨a', us, e, ha', hk, hks⟩ := T.tupled no
    cases e
    refine ⟨_, rfl, _, _, _, _, false, rfl, .ty "int", ty, kit_ti, false, rfl, iteF ?_⟩
    have kl := A1.len
    rw [List.length_map] at kl
    refine ⟨_, rfl, _, _, _, _, rfl, rfl, .inl (.inl ha'), at_of (j := 0) rfl rfl, _, rfl, l, ks, rfl, .inr (.inl (.inl h1)), ?_, fun p hp => ?_⟩
    · have : k.kids.length ≤ 2 := by cases k <;> simp [Tm.kids]
      simp only [List.append_nil, List.length_cons]
      have : (3 : Nat) ≤ sizeLine := by decide
      omega
    · have s1 := same_new hp (.tup (V.str (signHead k) :: (ks ++ [])))
      have hp1 : (upd H p (.tup (V.str (signHead k) :: (ks ++ [])))) p = some (.tup (V.str (signHead k) :: (ks ++ []))) := upd_same
      rw [List.append_nil] at hp1
      refine q (.ref p) _ ?_ s1
      rw [List.append_nil] at s1
      have A2 := A1.mono (Tups.same s1).1
      cases k with
      | v n => exact absurd rfl (no n)
      | z =>
        match ks, A2, hp1 with
        | [], _, hp1 => rw [List.append_nil]; exact .z hp1
      | s t =>
        match ks, A2, hp1 with
        | [x], A2, hp1 => rw [List.append_nil]; exact .s hp1 A2.1
      | f l' r =>
        match ks, A2, hp1 with
        | [x, y], A2, hp1 => rw [List.append_nil]; exact .f hp1 A2.1 A2.2.1
end
end Rp

/-! put: fold with the inner def, put itself. -/
namespace Rp
open PySem PySem.Spec PyProof.Rows L2 TL NdefX LamX StX
theorem AllAt.split {H : Hp} {xs : List V} {a b : List Tm} (h : AllAt H xs (a ++ b)) : ∃ ys zs, xs = ys ++ zs ∧ AllAt H ys a ∧ AllAt H zs b := by
  have l := h.len
  rw [List.length_append] at l
  refine ⟨xs.take a.length, xs.drop a.length, (List.take_append_drop _ _).symm, ?_⟩
  rw [← List.take_append_drop a.length xs] at h
  obtain ⟨t1, t2, e, h1, h2⟩ := h.parted
  have l1 := h1.len
  rw [List.length_take] at l1
  obtain ⟨rfl, rfl⟩ := List.append_inj e (by omega)
  exact ⟨h1, h2⟩
theorem put_kids (bd : Bd) {t : Tm} (no : ∀ n, t ≠ .v n) : (t.put bd).kids = t.kids.map (Tm.put bd) := by
  cases t with
  | v n => exact absurd rfl (no n)
  | z => rfl
  | s t => rfl
  | f l r => rfl
abbrev slEx (D : Addr) : List (Option V) := [some (.ref D)]
def spFoldE (g c : Addr) (cl : List (Str × Addr)) (ws : List (Option V)) : Sp := fun vs H Q _ => ∃ (v : V) (t : Tm) (D : Addr) (bd : Bd) (kvs : List (Key × V)), vs = [v, .ref g] ∧ ws = slEx D ∧ TmAt H v t ∧ t.size ≤ 1000 ∧ H g = some (FnO g (nfEx cl c)) ∧ H c = some (CodeO c qEx) ∧
  H D = some (.dK kvs) ∧ DbAt H kvs bd ∧ ∀ (v' : V) (H' : Hp), TmAt H' v' (t.put bd) → Same H H' → Q v' H'
section
variable {P : Program} {w : World} {K : PySem.W.Frag} {mg : Str → Option Value} {base : Heap}
theorem scFoldQ : FnScope ["term", "made_of", "made", "part", "first"] ["term", "made_of"] (defScope sFold) := ⟨rfl, rfl, rfl, by decide +kernel, rfl, by decide +kernel, by decide +kernel⟩
theorem ok_foldq {f fI fP : Addr} {fd dI dP : FuncData} (F : Fun K "fold" "fold" sFold f fd)
    (GI : FnOk P w K mg base CX0 2 fI dI ["term"] spInside) (kI : PySem.W.keepIn K (.ref fI) = true) (bI : Binds K dI ["term"] []) (mI : mg "inside_out" = some (.ref fI))
    (GP : FnOk P w K mg base CX0 1 fP dP ["term"] spParts) (kP : PySem.W.keepIn K (.ref fP) = true) (bP : Binds K dP ["term"] []) (mP : mg "_parts" = some (.ref fP))
    (mLen : mg "len" = none) (mIsi : mg "isinstance" = none) (mInt : mg "int" = none) (g c : Addr) (cl : List (Str × Addr)) (ws : List (Option V)) :
    QnOk P w K mg base 3 f fd ["term", "made_of"] (Held1 cl ["found"] ws) (spFoldE g c cl ws) := by
  refine qok F scFoldQ (fun vs H Q E h => ?_) (fun cdv A outer s H vs Q E held hr h => ?_)
  · obtain ⟨v, t, D, bd, kvs, rfl, _⟩ := h
    rfl
  obtain ⟨v, t, D, bd, kvs, rfl, rfl, T, sz, hg, hc, hD, DB, q⟩ := h
  have r1 : Room 1 _ := hr.mono (by decide)
  have GE : NOk P w K mg base CX0 1 g (nfEx cl c) ["part", "below"] ["found"] spEx := ok_ex mIsi mInt
  refine ⟨_, pss_cons (ps_set (i := 2) scFoldQ.nd rfl (Or.inl rfl) (pe_lst pa_nil))
    (pss_cons (ps_for PassesOwn.never rfl (pi_list (pe_call GI hr rfl mI kI bI .nil pass0 (pa_cons (pv 0) pa_nil))) (pg_name (i := 3) scFoldQ.nd rfl (Or.inl rfl))
      (pss_cons (ps_set (i := 4) scFoldQ.nd rfl (Or.inl rfl) (pe_op op_sub (pe_callB call_len_seq (by rfl) mLen PySem.boot_len (pa_cons (pv 2) pa_nil)) (pe_callB call_len_seq (by rfl) mLen PySem.boot_len (pa_cons (pe_call GP r1 rfl mP kP bP .nil pass0 (pa_cons (pv 3) pa_nil)) pa_nil))))
      (pss_one (ps_tail (pv 2) (po_some (pv 4)) (pe_lst (pa_cons (pe_callV (i := 1) (ws := slEx D) GE held rfl r1 rfl (Or.inl rfl) (pa_cons (pv 3) (pa_cons (pe_slice sl_list (pv 2) (po_some (pv 4)) po_none) pa_nil))) pa_nil))))))
    (pss_one (ps_ret (pe_ix ix_list (pv 2) pe_int (fun _ _ => rfl))))), ?_⟩
  refine ⟨(by show 0 ≤ sizeLine; decide), fun m hm => ?_⟩
  have s0 := same_new hm (.lst ([] : List V))
  refine ⟨_, rfl, v, t, rfl, T.same s0, sz, fun p xs H1 hp h1 A1 s1 => ?_⟩
  have hm1 := s1 _ _ (upd_same : (upd H m (.lst ([] : List V))) m = some (.lst []))
  have pm : p ≠ m := (ne_of_none (upd_same : (upd H m (.lst ([] : List V))) m = some (.lst [])) hp).symm
  have gm : g ≠ m := ne_of_none hg hm
  have cm : c ≠ m := ne_of_none hc hm
  have Dm : D ≠ m := ne_of_none hD hm
  have len := A1.len
  rw [List.length_reverse, Tm.rpost_len] at len
  have post : t.rpost.reverse.length = t.size := by rw [List.length_reverse, Tm.rpost_len]
  have big : (10000 : Nat) ≤ sizeLine := by decide
  refine ⟨p, rfl, ⟨_, .inl (.inl h1)⟩, for_list (K := K) (a := p) (xs := xs) (fun i σ H2 => ∃ (S : List Tm) (ys : List V) (x3 x4 : Option V), σ = [some v, some (.ref g), some (.ref m), x3, x4] ∧ H2 m = some (.lst ys) ∧ AllAt H2 ys (S.map (Tm.put bd)) ∧
      runs S (t.rpost.reverse.drop i) [t] ∧ S.length ≤ i ∧ But m H1 H2) ⟨[], [], none, none, rfl, hm1, trivial, ?_, by simp, But.refl _ _⟩ (fun i σ H2 _ ⟨_, _, _, _, _, _, _, _, _, o⟩ => .inl (.inl (o _ _ h1 pm))) ?_ ?_⟩
  · have := runs_post t [] [] [t] rfl
    simpa using this
  · rintro i x σ H2 hi ⟨S, ys, x3, x4, rfl, h2, A2, run, sl, o2⟩
    obtain ⟨k, hk, Tk⟩ := A1.get hi
    have li : i < t.rpost.reverse.length := (List.getElem?_eq_some_iff.mp hk).1
    have ek : t.rpost.reverse.drop i = k :: t.rpost.reverse.drop (i + 1) := by
      rw [List.drop_eq_getElem_cons li, (List.getElem?_eq_some_iff.mp hk).2]
    rw [ek] at run
    obtain ⟨S0, rfl, run⟩ := run
    rw [List.map_append] at A2
    obtain ⟨y1, y2, rfl, B1, B2⟩ := A2.split
    have l1 := B1.len
    have l2 := B2.len
    rw [List.length_map] at l1 l2
    have T2 := Tk.but o2 hm1
    rw [List.length_append] at sl
    have hg2 := o2 _ _ (s1 _ _ (s0 _ _ hg)) gm
    have hc2 := o2 _ _ (s1 _ _ (s0 _ _ hc)) cm
    have hD2 := o2 _ _ (s1 _ _ (s0 _ _ hD)) Dm
    have DB2 := (DB.mono (Tups.same s0).1 |>.mono (Tups.same s1).1).mono (Tups.but o2 hm1).1
    refine ⟨_, rfl, m, _, rfl, .inl (.inl (.inl h2)), _, rfl, x, k, rfl, T2, fun u ks H3 hu h3 A3 s3 => ?_⟩
    have kl := A3.len
    refine ⟨u, _, rfl, .inr (.inl (.inl h3)), _, _, rfl, rfl, ?_⟩
    have h23 := s3 _ _ h2
    have first : ((((y1 ++ y2).length : Nat) : Int) - ((ks.length : Nat) : Int)) = ((y1.length : Nat) : Int) := by
      rw [List.length_append, kl]; omega
    refine ⟨rfl, s3 _ _ hg2, _, rfl, _, rfl, _, rfl, _, rfl, m, _, rfl, .inl (.inl h23), fun d hd => ?_⟩
    have dm : d ≠ m := (ne_of_none h23 hd).symm
    rw [cut_from (i := y1.length) first]
    have cut : (y1 ++ y2).drop y1.length = y2 := by rw [List.drop_left']; rfl
    rw [cut]
    have s4 := same_new hd (.lst y2)
    have s24 : Same H2 (upd H3 d (.lst y2)) := s3.trans s4
    refine ⟨s24 _ _ hg2, s24 _ _ hc2, x, k, d, D, y2, bd, kvs, rfl, rfl, T2.same s24, upd_same, B2.mono (Tups.same s24).1, s24 _ _ hD2, DB2.mono (Tups.same s24).1, fun v' H4 T4 s4' => ?_⟩
    refine ⟨(by show 1 ≤ sizeLine; decide), fun b hb => ?_⟩
    have s5 := same_new hb (.lst [v'])
    have h24 := s4' _ _ (s4 _ _ h23)
    have h25 := s5 _ _ h24
    refine ⟨_, rfl, _, rfl, _, rfl, m, b, _, _, y1.length, rfl, rfl, congrArg some first, h25, upd_same, ne_of_none h24 hb, ?_, ?_, ?_⟩
    · rw [List.length_append]; omega
    · rw [List.length_append, List.length_singleton]; omega
    · have s25 : Same H2 (upd H4 b (.lst [v'])) := (s24.trans s4').trans s5
      have u6 : Tups (upd H4 b (.lst [v'])) (upd (upd H4 b (.lst [v'])) m (.lst ((y1 ++ y2).take y1.length ++ [v']))) := Tups.but (but_upd _) h25
      refine ⟨S0 ++ [k], y1 ++ [v'], _, _, rfl, ?_, ?_, run, ?_, ?_⟩
      · rw [upd_same, List.take_left' rfl]
      · rw [List.map_append]
        exact ((B1.mono (Tups.same s25).1).mono u6.1).append ⟨(T4.same s5).mono u6.1, trivial⟩
      · rw [List.length_append, List.length_singleton]
        omega
      · intro c' o' z nc
        rw [upd_ne nc]
        exact s25 _ _ (o2 _ _ z nc)
  · rintro σ H2 ⟨S, ys, x3, x4, rfl, h2, A2, run, sl, o2⟩
    rw [List.drop_of_length_le (by omega)] at run
    obtain rfl : S = [t] := run
    match ys, A2 with
    | [y], A2 =>
      refine ⟨_, rfl, m, _, _, _, rfl, rfl, .inl (.inl h2), at_of (j := 0) rfl rfl, q y H2 A2.1 ?_⟩
      exact fun c o z => o2 c o (s1 _ _ (s0 _ _ z)) (ne_of_none z hm)
end
end Rp

/-! put itself; all but the tables stays. -/
namespace Rp
open PySem PySem.Spec PyProof.Rows L2 TL NdefX LamX StX
/-- all but the tables stays, the tables are tables still -/
structure Ext (T : List NTab) (H H' : Hp) : Prop where
  ext : ExtN H H'
  tab : TabsN T H'
  nn : ∀ b, H' b = none → H b = none
theorem same_none {H H' : Hp} (e : Same H H') (b : Addr) (h : H' b = none) : H b = none := by
  cases q : H b with
  | none => rfl
  | some u => have := e _ _ q; rw [h] at this; cases this
theorem Ext.same {T : List NTab} {H H' : Hp} (t : TabsN T H) (e : Same H H') : Ext T H H' := ⟨ExtN.of e, t.ext e, same_none e⟩
theorem Ext.trans {T : List NTab} {H H1 H2 : Hp} (a : Ext T H H1) (b : Ext T H1 H2) : Ext T H H2 := ⟨a.ext.trans b.ext, b.tab, fun x h => a.nn _ (b.nn _ h)⟩
theorem Ext.lst {T : List NTab} {H H' : Hp} (e : Ext T H H') {a : Addr} {xs : List V} (h : H a = some (.lst xs)) : H' a = some (.lst xs) := e.ext _ _ h fun _ z => by cases z
theorem Ext.tups {T : List NTab} {H H' : Hp} (e : Ext T H H') : Tups H H' := Tups.ext e.ext
theorem pairs_of {K : PySem.W.Frag} {H : Hp} : ∀ {ps : List Addr} {bd : Bd}, Paired (PrAt H) ps bd → ∃ kvs : List (Key × V), Paired (fun p (kv : Key × V) => SqT K H p [kV kv.1, kv.2]) ps kvs ∧ Paired (fun (kv : Key × V) (q : Int × Tm) => kv.1 = Sum.inl q.1 ∧ TmAt H kv.2 q.2) kvs bd
  | _, _, .nil => ⟨[], .nil, .nil⟩
  | _, _, .cons (b := q) h t => by
    obtain ⟨x, hx, tx⟩ := h
    obtain ⟨kvs, h1, h2⟩ := pairs_of (K := K) t
    exact ⟨(Sum.inl q.1, x) :: kvs, .cons (.inl (.inl hx)) h1, .cons ⟨rfl, tx⟩ h2⟩
theorem merged_tells {H : Hp} : ∀ {kvs : List (Key × V)} {bd : Bd}, Paired (fun (kv : Key × V) (q : Int × Tm) => kv.1 = Sum.inl q.1 ∧ TmAt H kv.2 q.2) kvs bd → (bd.map (·.1)).Nodup → ∀ (acc : List (Key × V)) (n : Int),
    (bd.lookup n = none → valV (mergeK acc kvs) (Sum.inl n) = valV acc (Sum.inl n)) ∧ (∀ t, bd.lookup n = some t → ∃ v, valV (mergeK acc kvs) (Sum.inl n) = some v ∧ TmAt H v t)
  | _, _, .nil, _, acc, n => ⟨fun _ => rfl, fun t h => by cases h⟩
  | _, _, .cons (a := kv) (l₁ := kvs) (b := q) (l₂ := bd) h t, nd, acc, n => by
    obtain ⟨k, y⟩ := kv
    obtain ⟨m, tm⟩ := q
    obtain ⟨e, T⟩ := h
    have e : k = Sum.inl m := e
    subst e
    have T : TmAt H y tm := T
    rw [List.map_cons, List.nodup_cons] at nd
    have ih := merged_tells t nd.2 (putK acc (Sum.inl m) y) n
    have step : mergeK acc ((Sum.inl m, y) :: kvs) = mergeK (putK acc (Sum.inl m) y) kvs := rfl
    rw [step]
    by_cases hn : n = m
    · subst hn
      have no : bd.lookup n = none := by
        rw [List.lookup_eq_none_iff]
        intro p hp
        have : n ≠ p.1 := fun z => nd.1 (List.mem_map.mpr ⟨p, hp, z.symm⟩)
        simpa using this
      have hl : ((n, tm) :: bd).lookup n = some tm := by simp [List.lookup]
      refine ⟨fun z => ?_, fun t' z => ?_⟩
      · rw [hl] at z; cases z
      · rw [hl] at z; cases z
        refine ⟨y, ?_, T⟩
        rw [ih.1 no, valV_put, if_pos rfl]
    · have hl : ((m, tm) :: bd).lookup n = bd.lookup n := by
        rw [List.lookup_cons, beq_eq_false_iff_ne.mpr hn]
      rw [hl]
      refine ⟨fun z => ?_, ih.2⟩
      rw [ih.1 z, valV_put, if_neg (fun z => hn (Sum.inl.inj z))]
theorem dict_of {H : Hp} {kvs : List (Key × V)} {bd : Bd} (h : Paired (fun (kv : Key × V) (q : Int × Tm) => kv.1 = Sum.inl q.1 ∧ TmAt H kv.2 q.2) kvs bd) (nd : (bd.map (·.1)).Nodup) : DbAt H (mergeK [] kvs) bd := fun n => by
  obtain ⟨h1, h2⟩ := merged_tells h nd [] n
  cases e : bd.lookup n with
  | none => exact .inr ⟨h1 e, rfl⟩
  | some t =>
    obtain ⟨v, a, b⟩ := h2 t e
    exact .inl ⟨v, t, a, rfl, b⟩
def spPut (T : List NTab) : Sp := fun vs H Q _ => ∃ (v : V) (t : Tm) (a : Addr) (bd : Bd), vs = [v, .ref a] ∧ TmAt H v t ∧ t.size ≤ 1000 ∧ BdAt H a bd ∧ TabsN T H ∧ ∀ (v' : V) (H' : Hp), TmAt H' v' (t.put bd) → Ext T H H' → Q v' H'
section
variable {P : Program} {w : World} {K : PySem.W.Frag} {mg : Str → Option Value} {base : Heap}
/-- a def by its body, its code object told -/
theorem okC {x qual : Str} {st : Stmt} {f c : Addr} {fd : FuncData} {N ps : List Str} {k : Nat} {sp : Sp} (F : Fun K x qual st f fd) (hc : fd.code = .ref c) (S : FnScope N ps (defScope st)) (len : ∀ vs H Q E, sp vs H Q E → vs.length = ps.length)
    (walk : ∀ (A : Around) (outer : List Env) (s : Shared) (H : Hp) (vs : List V) (Q : VK) (E : XK), Room k (A.deeper (envOfC qual (defScope st) s.heap.objs.size f (.ref c))) → sp vs H Q E →
      ∃ t, PSs (cxOf CX0 P w K mg base N qual (defScope st) f (.ref c) A outer s H E).nox (defBody st) t ∧ t { nx := fun _ H' => Q .non H', rt := Q } (start N vs) H) : FnOk P w K mg base CX0 (k + 1) f fd ps sp := by
  obtain ⟨oc, od, kV, doc, pm, an, cdv, ct, osl, rfl, lk, hcd⟩ := F.ex
  obtain rfl : cdv = .ref c := hc
  refine fn_of lk hcd S len fun A outer s H vs Q E hr hsp => ?_
  obtain ⟨t, h, q⟩ := walk A outer s H vs Q E hr hsp
  exact ⟨t, h.nox, q⟩
abbrev NPut : List Str := ["term", "binding", "found", "exchanged"]
theorem scPut : FnScope NPut ["term", "binding"] (defScope sPut) := ⟨rfl, rfl, rfl, by decide +kernel, rfl, by decide +kernel, by decide +kernel⟩
theorem ok_put {f fF c Pt : Addr} {fd dF : FuncData} (F : Fun K "put" "put" sPut f fd) (hc : fd.code = .ref c) (TB : TabB base mg c Pt)
    (GF : ∀ (g c : Addr) (cl : List (Str × Addr)) (ws : List (Option V)), QnOk P w K mg base 3 fF dF ["term", "made_of"] (Held1 cl ["found"] ws) (spFoldE g c cl ws)) (kF : PySem.W.keepIn K (.ref fF) = true) (bF : Binds K dF ["term", "made_of"] []) (mF : mg "fold" = some (.ref fF))
    (mDict : mg "dict" = none) : FnOk P w K mg base CX0 4 f fd ["term", "binding"] (spPut [(Pt, nmEx)]) := by
  refine okC F hc scPut (fun vs H Q E h => ?_) (fun A outer s H vs Q E hr h => ?_)
  · obtain ⟨v, t, a, bd, rfl, _⟩ := h
    rfl
  obtain ⟨v, t, a, bd, rfl, T, sz, B, hT, q⟩ := h
  have nb : ndefB (defScope sPut) (C8.fnScope sEx) ["found"] = true := by decide +kernel
  refine ⟨_, pss_cons (ps_set (i := 2) scPut.nd rfl (Or.inr rfl) (pe_callTy (cr_dictT rfl) rfl mDict (by decide +kernel) (pa_cons (pv 1) pa_nil)))
    (pss_cons (ps_ndefMS (st := sEx) (T := [(Pt, nmEx)]) (nm := nmEx) (c := c) (P := Pt) (i := 3) rfl TB rfl (List.mem_singleton.mpr rfl) (by rfl) (fun p hp _ => by rw [List.mem_singleton.mp hp]) (ndef_free (sc := defScope sPut) nb) rfl rfl rfl scPut.nd rfl (Or.inl rfl) (.inl rfl))
    (pss_one (ps_ret (pe_callQ (fr := ["found"]) (js := [2]) (fun g c' ws => GF g c' _ ws) (fun ok => Caps.made (scope := C8.fnScope sEx) ok (ndef_free (sc := defScope sPut) nb) (ndef_fr (sc := defScope sPut) nb) rfl) ⟨rfl, rfl⟩ (fun _ => rfl) hr rfl mF kF bF (pa_cons (pv 0) (pa_cons (pv 3) pa_nil)))))), ?_⟩
  obtain ⟨ps, hp, pr, nd, bz⟩ := B
  obtain ⟨kvs, h1, h2⟩ := pairs_of (K := K) pr
  refine ⟨_, rfl, a, ps, kvs, rfl, hp, h1, fun D hD => ?_⟩
  have s1 := same_new hD (.dK (mergeK [] kvs))
  have DB := dict_of h2 nd
  refine ⟨hT.ext s1, fun g c' H1 e1 nn1 T1 hg hg1 hc1 => ?_⟩
  have u1 : Tups H H1 := (Tups.same s1).trans (Tups.ext e1)
  have hD1 := e1 _ _ (upd_same : (upd H D (.dK (mergeK [] kvs))) D = some (.dK (mergeK [] kvs))) (fun _ z => by cases z)
  refine ⟨_, rfl, _, rfl, g, c', v, t, D, bd, _, rfl, rfl, T.mono u1.1, sz, hg1, hc1, hD1, DB.mono u1.1, fun v' H' T' s' => q v' H' T' ?_⟩
  exact (Ext.same hT s1).trans ((⟨e1, T1, nn1⟩ : Ext _ _ _).trans (Ext.same T1 s'))
end
end Rp

/-! A set of ints made by a comprehension of two fors. -/
namespace Rp
open PySem PySem.Spec PyProof.Rows L2 PpSet
/-- {elt for ta in ia if fa for tb in ib if fb} -/
abbrev scx (elt ta ia : Expr) (fa : List Expr) (tb ib : Expr) (fb : List Expr) (sc : Scope) (at_ : Pos) : Expr := .SetComp elt [⟨ta, ia, fa, 0⟩, ⟨tb, ib, fb, 0⟩] sc at_
theorem scx_turnA (elt ta ia : Expr) (fa : List Expr) (tb ib : Expr) (fb : List Expr) (sc : Scope) (at_ : Pos) (cur box : Value) (en : Env) :
    compTurn (scx elt ta ia fa tb ib fb sc at_) 0 cur box en = (do
      standAt ia.pos
      match ← pyNext cur with
      | none => pure (.done .next)
      | some got =>
        letOwnedTupleGo ta cur got
        assign ta en got
        let mut fine := true
        for c in fa do
          if fine then fine ← isTrue c en (eval c en)
        if fine then
          let y ← eval ib en
          standAt ib.pos
          let y ← foldedSetIterable ib en y
          let _ ← runOwn (.compStart (scx elt ta ia fa tb ib fb sc at_) 1 (← holding [y] (pyIter y)) box en) en
        again (.compLoop (scx elt ta ia fa tb ib fb sc at_) 0 cur box en)) := by rfl
theorem scx_turnB (elt ta ia : Expr) (fa : List Expr) (tb ib : Expr) (fb : List Expr) (sc : Scope) (at_ : Pos) (cur box : Value) (en : Env) :
    compTurn (scx elt ta ia fa tb ib fb sc at_) 1 cur box en = (do
      standAt ib.pos
      match ← pyNext cur with
      | none => pure (.done .next)
      | some got =>
        letOwnedTupleGo tb cur got
        assign tb en got
        let mut fine := true
        for c in fb do
          if fine then fine ← isTrue c en (eval c en)
        if fine then
          (do let y ← eval elt en; standAt elt.pos; let _ ← call (.builtin "set.add") [box, y])
        again (.compLoop (scx elt ta ia fa tb ib fb sc at_) 1 cur box en)) := by rfl
section
variable {pr : Program} {w : World} {A : Around} {R : Result → Shared → Prop} {s : Shared} {elt ta ia tb ib : Expr} {fa fb : List Expr} {sc : Scope} {at_ : Pos} {cur box : Value} {en : Env}
/-- a clause's tests -/
abbrev testsOf (fs : List Expr) (en : Env) : Sem Bool := forIn fs true fun c r => if r = true then do let fine ← isTrue c en (eval c en); pure (ForInStep.yield fine) else pure (ForInStep.yield r)
/-- an error on the way is noted -/
abbrev noteE (pr : Program) (w : World) (A : Around) (R : Result → Shared → Prop) (en : Env) : Value → Shared → Prop := notedBy (model pr w) A en fun e s' => R (.error e) s'
theorem scx_loopA (plain : ∀ y, foldedSetIterable ib en y = pure y) (J : Nat → Shared → Prop)
    (each : ∀ n s, J n s → wpAny (model pr w) A (pyNext cur) (fun r s1 => match r with
      | none => R (.ok .next) s1
      | some got => wpAny (model pr w) A (letOwnedTupleGo ta cur got) (fun _ s2 => wpAny (model pr w) A (assign ta en got) (fun _ s3 => wpAny (model pr w) A (testsOf fa en) (fun fine s4 =>
            if fine = true then wpAny (model pr w) A (eval ib en) (fun y s5 => wpAny (model pr w) A (pyIter y) (fun cur1 s6 =>
              codeAny (model pr w) A (.compStart (scx elt ta ia fa tb ib fb sc at_) 1 cur1 box en) (fun r s' => match r with
                | .ok _ => ∃ m, m < n ∧ J m s'
                | .error _ => False) s6) (noteE pr w A R en) s5) (noteE pr w A R en) s4
            else ∃ m, m < n ∧ J m s4) (noteE pr w A R en) s3) (noteE pr w A R en) s2) (noteE pr w A R en) s1) (noteE pr w A R en) s)
    (n : Nat) (h0 : J n s) : codeAny (model pr w) A (.compLoop (scx elt ta ia fa tb ib fb sc at_) 0 cur box en) R s := by
  refine codeAny_loop rfl J (fun n s hJ => ?_) n h0
  show wpAny _ A ((compTurn (scx elt ta ia fa tb ib fb sc at_) 0 cur box en).onRaise (fun z => do noteFrame z en; theTreesLotGoes z)) _ _ s
  refine wpAny_noted ?_
  rw [scx_turnA]
  refine wpAny_bind (wpAny_standAt (wpAny_bind (wpAny_mono (each n s hJ) (fun r s1 q1 => ?_) fun _ _ z => z)))
  rcases r with _ | got
  · exact wpAny_pure q1
  · refine wpAny_bind (wpAny_mono q1 (fun _ s2 q2 => wpAny_bind (wpAny_mono q2 (fun _ s3 q3 => wpAny_bind (wpAny_mono q3 (fun fine s4 q4 => ?_) fun _ _ z => z)) fun _ _ z => z)) fun _ _ z => z)
    cases fine with
    | false => exact wpAny_pure ⟨rfl, q4⟩
    | true =>
      refine wpAny_bind (wpAny_mono q4 (fun y s5 q5 => wpAny_bind (wpAny_standAt (wpAny_bind (wpAny_of_eq (plain y) (wpAny_bind (wpAny_holding (wpAny_mono q5 (fun cur1 s6 q6 => ?_) fun _ _ z => z))))))) fun _ _ z => z)
      refine wpAny_bind (wpAny_runOwn ?_)
      rw [Around.mark_none]
      refine codeAny_mono q6 fun r s' hr => ?_
      rcases r with e | fl
      · exact hr.elim
      · first
          | exact wpAny_pure ⟨rfl, hr⟩
          | exact wpAny_bind (wpAny_pure (wpAny_pure ⟨rfl, hr⟩))
theorem scx_loopB (J : Nat → Shared → Prop)
    (each : ∀ n s, J n s → wpAny (model pr w) A (pyNext cur) (fun r s1 => match r with
      | none => R (.ok .next) s1
      | some got => wpAny (model pr w) A (letOwnedTupleGo tb cur got) (fun _ s2 => wpAny (model pr w) A (assign tb en got) (fun _ s3 => wpAny (model pr w) A (testsOf fb en) (fun fine s4 =>
            if fine = true then wpAny (model pr w) A (eval elt en) (fun y s5 => wpAny (model pr w) A (call (.builtin "set.add") [box, y]) (fun _ s6 => ∃ m, m < n ∧ J m s6) (noteE pr w A R en) s5) (noteE pr w A R en) s4
            else ∃ m, m < n ∧ J m s4) (noteE pr w A R en) s3) (noteE pr w A R en) s2) (noteE pr w A R en) s1) (noteE pr w A R en) s)
    (n : Nat) (h0 : J n s) : codeAny (model pr w) A (.compLoop (scx elt ta ia fa tb ib fb sc at_) 1 cur box en) R s := by
  refine codeAny_loop rfl J (fun n s hJ => ?_) n h0
  show wpAny _ A ((compTurn (scx elt ta ia fa tb ib fb sc at_) 1 cur box en).onRaise (fun z => do noteFrame z en; theTreesLotGoes z)) _ _ s
  refine wpAny_noted ?_
  rw [scx_turnB]
  refine wpAny_bind (wpAny_standAt (wpAny_bind (wpAny_mono (each n s hJ) (fun r s1 q1 => ?_) fun _ _ z => z)))
  rcases r with _ | got
  · exact wpAny_pure q1
  · refine wpAny_bind (wpAny_mono q1 (fun _ s2 q2 => wpAny_bind (wpAny_mono q2 (fun _ s3 q3 => wpAny_bind (wpAny_mono q3 (fun fine s4 q4 => ?_) fun _ _ z => z)) fun _ _ z => z)) fun _ _ z => z)
    cases fine with
    | false => exact wpAny_pure ⟨rfl, q4⟩
    | true => exact wpAny_bind (wpAny_bind (wpAny_mono q4 (fun y s5 q5 => wpAny_bind (wpAny_standAt (wpAny_bind (wpAny_mono q5 (fun _ s6 q6 => wpAny_pure (wpAny_pure ⟨rfl, q6⟩)) fun _ _ z => z)))) fun _ _ z => z))
theorem scx_startB (go : codeAny (model pr w) A (.compLoop (scx elt ta ia fa tb ib fb sc at_) 1 cur box en) R s)
    (own : wpAny (model pr w) A (pyIter cur) (fun c' s' => codeAny (model pr w) A (.compLoop (scx elt ta ia fa tb ib fb sc at_) 1 c' box en) R s') (noteE pr w A R en) s) :
    codeAny (model pr w) A (.compStart (scx elt ta ia fa tb ib fb sc at_) 1 cur box en) R s := by
  refine codeAny_of_tree ?_
  show wpAny _ _ ((compStart (scx elt ta ia fa tb ib fb sc at_) 1 cur box en).onRaise (fun z => do noteFrame z en; standAt theWindowsPlace)) _ _ s
  refine wpAny_notedAt ?_
  unfold compStart
  show wpAny _ _ (ask >>= _) _ _ s
  refine wpAny_bind (wpAny_askSetting (wpAny_ite ?_))
  split
  · first
      | exact wpAny_bind (wpAny_pure (wpAny_pure (And.intro rfl go)))
      | exact wpAny_pure (And.intro rfl go)
  · first
      | exact wpAny_bind (wpAny_rule (wpAny_bind (wpAny_standAt (wpAny_bind (wpAny_mono own (fun c' s' q => wpAny_pure (And.intro rfl q)) fun _ _ z => z)))))
      | (refine wpAny_bind (wpAny_rule ?_); show wpAny _ _ (standAt ib.pos >>= _) _ _ s; exact wpAny_bind (wpAny_standAt (wpAny_bind (wpAny_mono own (fun c' s' q => wpAny_pure (And.intro rfl q)) fun _ _ z => z))))
end
section
variable {X : Cx}
/-- what such a comprehension asks: the outer walk's turns (W, Nx), behind each one the inner walk's (W', Nx') -/
def tScI2 (w : World) (wi : TI) (g : TG) (tt : TT) (wi' : TI) (g' : TG) (tt' : TT) (te : TE) (vs vs' : List Nat) : TE := fun σ H Q => wi σ H fun J H1 => ∀ D, H1 D = none →
  ∃ W : Nat → Nat → Hp → Prop, (∃ m, W 0 m (upd H1 D (SetO w D (fun _ => false) 0))) ∧ ∀ i m H, W i m H → (J.stop i H ∧ Q (.ref D) H) ∨
    (J.go i H ∧ ∃ Nx : Hp → Prop, (∀ H', Nx H' → ∃ m', m' < m ∧ W (i + 1) m' H') ∧ ∀ x H', J.yld i H x H' → g x (wipe σ vs) H' fun σ2 H2 => wipe σ2 vs = wipe σ vs ∧
      tt σ2 H2 fun b H3 => if b = true then wi' σ2 H3 fun J' H4 => ∃ W' : Nat → Nat → Hp → Prop, (∃ m, W' 0 m H4) ∧ ∀ j k H, W' j k H → (J'.stop j H ∧ Nx H) ∨
        (J'.go j H ∧ ∃ Nx' : Hp → Prop, (∀ H', Nx' H' → ∃ k', k' < k ∧ W' (j + 1) k' H') ∧ ∀ x H', J'.yld j H x H' → g' x (wipe σ2 vs') H' fun σ3 H5 => wipe σ3 vs' = wipe σ2 vs' ∧
          tt' σ3 H5 fun b H6 => if b = true then te σ3 H6 fun y H7 => ∃ (n : Int) (S : Int → Bool) (c : Nat), y = .int n ∧ H7 D = some (SetO w D S c) ∧ c + 1 < scanBound ∧
            Nx' (upd H7 D (SetO w D (fun j => S j || decide (j = n)) (if S n = true then c else c + 1))) else Nx' H6)
      else Nx H3)
theorem pe_scI2 {elt ta ia tb ib : Expr} {fa fb : List Expr} {sc : Scope} {own : List (PySem.Str × Nat)} {vs' : List Nat} {at_ : Pos} {wi wi' : TI} {g g' : TG} {tt tt' : TT} {te : TE}
    (calm : X.calm = true) (nd : X.N.Nodup) (hi : PI X ta ia wi) (ok : BlkOk X.N X.env.scope sc own) (inn : ∀ i ∈ vs', i ∈ own.map (·.2))
    (hg : ∀ (s : Shared) (H : Hp) (C : Addr) (cl : List (PySem.Str × Addr)) (fp : List Addr), PG (X.blk s H sc (compEnvC sc cl C X.env) fp) ta g)
    (ht : ∀ (s : Shared) (H : Hp) (C : Addr) (cl : List (PySem.Str × Addr)) (fp : List Addr), PTs (X.blk s H sc (compEnvC sc cl C X.env) fp) fa tt)
    (hi' : ∀ (s : Shared) (H : Hp) (C : Addr) (cl : List (PySem.Str × Addr)) (fp : List Addr), PI (X.blk s H sc (compEnvC sc cl C X.env) fp) tb ib wi')
    (hg' : ∀ (s : Shared) (H : Hp) (C : Addr) (cl : List (PySem.Str × Addr)) (fp : List Addr), PG (X.blk s H sc (compEnvC sc cl C X.env) fp) tb g')
    (ht' : ∀ (s : Shared) (H : Hp) (C : Addr) (cl : List (PySem.Str × Addr)) (fp : List Addr), PTs (X.blk s H sc (compEnvC sc cl C X.env) fp) fb tt')
    (he : ∀ (s : Shared) (H : Hp) (C : Addr) (cl : List (PySem.Str × Addr)) (fp : List Addr), PE (X.blk s H sc (compEnvC sc cl C X.env) fp) elt te)
    (plain : ∀ y, foldedSetIterable ia X.env y = pure y := by intro _; rfl) (plain' : ∀ en y, foldedSetIterable ib en y = pure y := by intro _ _; rfl) :
    PE X (scx elt ta ia fa tb ib fb sc at_) (tScI2 X.w wi g tt wi' g' tt' te (own.map (·.2)) vs') := by
  refine ⟨fun pins s σ H Q I h => ?_⟩
  rw [eval_SetComp]
  have caught : ∀ y ∈ sc.names, y.2 = .free → ∃ c, X.env.cells.lookup y.1 = some c := fun y hy e =>
    (ok.free y hy e).elim (fun k => I.ok.has _ (.inl k)) fun k => I.ok.has _ (.inr k)
  refine wpAny_comprehension_free (use := none) rfl plain (closure_ok caught) ok.kind (fun y hy e => (ok.uniq y hy).trans (by rw [e])) (thn (hi.run pins s σ H _ I h) fun xv s1 hx => thn hx fun itv s2 h2 => ?_)
  obtain ⟨it, fp, tn, J, H2, rfl, I2, T, st2, f2, q⟩ := h2
  refine newSet_ok (newEnv_comp ?_)
  obtain ⟨D, hD⟩ : ∃ D, s2.heap.objs.size = D := ⟨_, rfl⟩
  rw [hD]
  obtain ⟨W, ⟨m0, w0⟩, turn⟩ := q D (I2.hok.fresh (Nat.le_of_eq hD))
  obtain ⟨s3, hs3⟩ : ∃ s3 : Shared, { s2 with heap := s2.heap.push (emptySet X.w) } = s3 := ⟨_, rfl⟩
  have h3 : s3.heap = s2.heap.push (emptySet X.w) := by rw [← hs3]
  have I3 : Inv X pins σ (upd H2 D (SetO X.w D (fun _ => false) 0)) s3 := by
    have z := I2.laid (a := D) (o := SetO X.w D (fun _ => false) 0) (t' := s2.toks) (h' := s2.heap.push (emptySet X.w)) (fun b o e => Heap.get?_push_of_some _ e) (Nat.le_of_eq hD) (by rw [← hD]; exact setO_new (setR_fresh X.w))
    exact hs3 ▸ z
  have low : ∀ b ∈ fp, b < s2.heap.objs.size := fun b hb => let ⟨o, e, _⟩ := T.obj _ _ st2 b hb; Heap.lt_size e
  have f3 : ∀ b ∈ fp, FpOk X pins (upd H2 D (SetO X.w D (fun _ => false) 0)) b ∧ b < s3.heap.objs.size := fun b hb =>
    ⟨⟨(upd_ne (by rw [← hD]; exact Nat.ne_of_lt (low b hb))).trans (f2 b hb).1, (f2 b hb).2⟩, by rw [h3, Heap.size_push]; exact Nat.lt_succ_of_lt (low b hb)⟩
  have st3 : tn 0 s3.heap := T.keep _ _ _ st2 fun b _ o e => h3 ▸ Heap.get?_push_of_some _ e
  have I4 := block_start I3 ok nd f3
  obtain ⟨H3, hH3⟩ : ∃ H3, upd H2 D (SetO X.w D (fun _ => false) 0) = H3 := ⟨_, rfl⟩
  rw [hH3] at I3 f3 I4 w0
  obtain ⟨C, hC⟩ : ∃ C, s3.heap.objs.size = C := ⟨_, rfl⟩
  rw [hC] at I4
  have pg := hg s3 H3 C (cellsFrom (C + 1) sc.names (cloFrom X.env.cells sc.names [])) fp
  have pt := ht s3 H3 C (cellsFrom (C + 1) sc.names (cloFrom X.env.cells sc.names [])) fp
  have pi' := hi' s3 H3 C (cellsFrom (C + 1) sc.names (cloFrom X.env.cells sc.names [])) fp
  have pg' := hg' s3 H3 C (cellsFrom (C + 1) sc.names (cloFrom X.env.cells sc.names [])) fp
  have pt' := ht' s3 H3 C (cellsFrom (C + 1) sc.names (cloFrom X.env.cells sc.names [])) fp
  have pe := he s3 H3 C (cellsFrom (C + 1) sc.names (cloFrom X.env.cells sc.names [])) fp
  subst hs3
  have hC' : (s2.heap.push (emptySet X.w)).objs.size = C := hC
  show codeAny _ _ (.compStart (scx elt ta ia fa tb ib fb sc at_) 0 (.ref it) (.ref D) (compEnvC sc (cellsFrom ((s2.heap.push (emptySet X.w)).objs.size + 1) sc.names (cloFrom X.env.cells sc.names [])) (s2.heap.push (emptySet X.w)).objs.size X.env))
    (compPost (model X.prog X.w) X.A X.xe none (EP X pins σ Q) (.ref D) (s2.heap.push (emptySet X.w)).objs.size) { s2 with heap := pushCells ((s2.heap.push (emptySet X.w)).push { cls := .type "dict", data := .dict #[] }) sc.names }
  rw [hC']
  obtain ⟨ce, hce⟩ : ∃ ce, compEnvC sc (cellsFrom (C + 1) sc.names (cloFrom X.env.cells sc.names [])) C X.env = ce := ⟨_, rfl⟩
  rw [hce] at I4 pg pt pi' pg' pt' pe ⊢
  have cL : ce.locals = C := by subst hce; rfl
  obtain ⟨s4, hs4⟩ : ∃ s4 : Shared, { s2 with heap := pushCells ((s2.heap.push (emptySet X.w)).push { cls := .type "dict", data := .dict #[] }) sc.names } = s4 := ⟨_, rfl⟩
  obtain ⟨Y, hY⟩ : ∃ Y, X.blk { s2 with heap := s2.heap.push (emptySet X.w) } H3 sc ce fp = Y := ⟨_, rfl⟩
  have I4 : Inv Y [] (wipe σ (own.map (·.2))) H3 s4 := hY ▸ hs4 ▸ I4
  rw [hs4]
  have st4 : tn 0 s4.heap := T.keep _ _ _ st3 fun b _ o e => by rw [← hs4]; exact pushCells_keeps _ _ _ _ (Heap.get?_push_of_some _ e)
  have rest : ∀ {σ' : L2.St} {H' : Hp} {s' : Shared}, Inv Y [] σ' H' s' → (∀ b ∈ fp, H' b = none) → ∀ b ∈ fp, FpOk Y [] H' b := by
    subst hY
    intro σ' H' s' I' hn b hb
    exact ⟨hn b hb, (I'.ok.exf b hb).1, I'.ok.exfs b hb, .inl hb, fun x c e => (I'.ok.exf b hb).2 x c e, fun p hp => absurd (show p ∈ ([] : List (Addr × Obj)) ++ [] from hp) (by simp)⟩
  obtain ⟨Go, hGo⟩ : ∃ Go : Nat → Shared → Prop, Go = fun n s' => ∃ i H', Inv Y [] (wipe σ (own.map (·.2))) H' s' ∧ tn i s'.heap ∧ (∀ b ∈ fp, H' b = none) ∧ W i n H' := ⟨_, rfl⟩
  have round : codeAny (model X.prog X.w) X.A (.compLoop (scx elt ta ia fa tb ib fb sc at_) 0 (.ref it) (.ref D) ce) (compPost (model X.prog X.w) X.A X.xe none (EP X pins σ Q) (.ref D) C) s4 := by
    refine scx_loopA (plain' ce) Go ?_ m0 (by rw [hGo]; exact ⟨0, H3, I4, st4, fun b hb => (f3 b hb).1.1, w0⟩)
    intro n s5 g5
    rw [hGo] at g5
    obtain ⟨i, H5, I5, st5, n5, w5⟩ := g5
    rcases turn i n H5 w5 with ⟨over, last⟩ | ⟨more, Nx, hNx, step⟩
    · subst hY
      refine thnF (T.done (X.blk _ H3 sc ce fp) rfl rfl rfl calm i [] s5 _ H5 (fun _ _ => False) I5 (rest I5 n5) st5 over) fun r s6 ⟨hr, I6⟩ => ?_
      subst hr
      have I7 : Inv X pins σ H5 s6 := I3.call' (ch := fp) I6.os I6.base I6.hok I6.bare fun b hb => ⟨(f3 b hb).1.2.2.2.1, (f3 b hb).1.2.1, (f3 b hb).1.2.2.2.2.1, (f3 b hb).1.2.2.2.2.2⟩
      have nC : H5 C = none := cL ▸ (show H5 ce.locals = none from I6.free)
      obtain ⟨m, hn, _⟩ := I6.loc
      have hn : s6.heap.Ns C m := cL ▸ (show s6.heap.Ns ce.locals m from hn)
      refine ⟨m, hn, fun h'' sb => ?_⟩
      obtain ⟨g0, g1, g2, g3, g4, g5⟩ := I3.fpOk (Nat.le_of_eq hC) nC
      exact ⟨.ref D, H5, I7.turned (t' := s6.toks) (fun b o hb e => (sb.2 b hb).trans e) g0 g1 g3 g4 g5, rfl, last⟩
    · have item := T.item Y (by subst hY; rfl) (by subst hY; rfl) (by subst hY; rfl) (by subst hY; exact calm) i [] s5 _ H5 (fun _ _ => False) I5 (rest I5 n5) st5 more
      rw [hY] at pg pt pi' pg' pt' pe
      have yA : Y.A = X.A := by subst hY; rfl
      have yP : Y.prog = X.prog := by subst hY; rfl
      have yw : Y.w = X.w := by subst hY; rfl
      subst hY
      refine thnF item fun r s6 ⟨u, hr, h6⟩ => ?_
      subst hr
      refine thnF h6 fun _ s7 ⟨x, H7, I7, r7, y7, st7, n7⟩ => ?_
      refine thnF (pg.run _ s7 _ H7 x u _ (I7.pinned (rest I7 n7) (T.obj _ _ st7)) r7 (step x H7 y7)) fun _ s8 ⟨σ8, H8, I8, hw8, q8⟩ => ?_
      refine thnF (pt.run _ s8 σ8 H8 _ I8 q8) fun b s9 ⟨H9, I9, q9⟩ => ?_
      -- back at the outer walk
      have back : ∀ {σ' : L2.St} {s' : Shared} {H' : Hp}, Inv (X.blk { s2 with heap := s2.heap.push (emptySet X.w) } H3 sc ce fp) ([] ++ pinsAt fp s7.heap) σ' H' s' → σ'.length = σ8.length → (∀ (j : Nat) v, (wipe σ8 (own.map (·.2)))[j]? = some (some v) → σ'[j]? = some (some v)) → Nx H' → ∃ m, m < n ∧ Go m s' := by
        intro σ' s' H' I' len same nx
        obtain ⟨m', hm, w'⟩ := hNx H' nx
        have pin : ∀ b ∈ fp, ∀ o, s7.heap.get? b = some o → s'.heap.get? b = some o ∧ H' b = none := fun b hb o e =>
          let z := I'.pin (b, o) (List.mem_append_right _ (List.mem_append_right _ (mem_pinsAt hb e))); ⟨z.1, z.2.1⟩
        refine ⟨m', hm, ?_⟩
        rw [hGo]
        refine ⟨i + 1, H', (I'.unpinned (pins := [])).weak (by rw [← hw8, wipe_length, len]) (fun j v e => same j v (by rw [hw8]; exact e)), T.keep _ _ _ st7 fun b hb o e => (pin b hb o e).1, fun b hb => ?_, w'⟩
        obtain ⟨o, e, _⟩ := T.obj _ _ st7 b hb
        exact (pin b hb o e).2
      cases b with
      | false =>
        simp only [Bool.false_eq_true, if_false] at q9 ⊢
        exact back I9 rfl (fun j v e => (wipe_some e).1) q9
      | true =>
        simp only [if_true] at q9 ⊢
        refine thnF (pi'.run _ s9 σ8 H9 _ I9 q9) fun yv s10 hx => thnF hx fun itv s11 h11 => ?_
        obtain ⟨it', fp', tn', J', H11, rfl, I11, T', st11, f11, W', ⟨m1, w1⟩, turn'⟩ := h11
        have rest' : ∀ {H' : Hp}, (∀ b ∈ fp', H' b = none) → ∀ b ∈ fp', FpOk (X.blk { s2 with heap := s2.heap.push (emptySet X.w) } H3 sc ce fp) ([] ++ pinsAt fp s7.heap) H' b := fun hn b hb => ⟨hn b hb, (f11 b hb).2⟩
        obtain ⟨Go', hGo'⟩ : ∃ Go' : Nat → Shared → Prop, Go' = fun k s' => ∃ j H', Inv (X.blk { s2 with heap := s2.heap.push (emptySet X.w) } H3 sc ce fp) ([] ++ pinsAt fp s7.heap) (wipe σ8 vs') H' s' ∧ tn' j s'.heap ∧ (∀ b ∈ fp', H' b = none) ∧ W' j k H' := ⟨_, rfl⟩
        have inner : codeAny (model X.prog X.w) X.A (.compLoop (scx elt ta ia fa tb ib fb sc at_) 1 (.ref it') (.ref D) ce)
            (fun r s' => match r with
              | .ok _ => ∃ m, m < n ∧ Go m s'
              | .error _ => False) s11 := by
          refine scx_loopB Go' ?_ m1 (by rw [hGo']; exact ⟨0, H11, I11.weak (wipe_length _ _) (fun j v e => (wipe_some e).1), st11, fun b hb => (f11 b hb).1, w1⟩)
          intro k s12 g12
          rw [hGo'] at g12
          obtain ⟨j, H12, I12, st12, n12, w12⟩ := g12
          rcases turn' j k H12 w12 with ⟨over', nx⟩ | ⟨more', Nx', hNx', step'⟩
          · refine thnF (T'.done (X.blk { s2 with heap := s2.heap.push (emptySet X.w) } H3 sc ce fp) rfl rfl rfl calm j _ s12 (wipe σ8 vs') H12 (fun _ _ => False) I12 (rest' n12) st12 over') fun r s13 ⟨hr, I13⟩ => ?_
            subst hr
            refine back I13 (wipe_length σ8 vs') (fun l v e => ?_) nx
            obtain ⟨e1, e2⟩ := wipe_some e
            rw [wipe_out fun z => e2 (inn l z)]
            exact e1
          · refine thnF (T'.item (X.blk { s2 with heap := s2.heap.push (emptySet X.w) } H3 sc ce fp) rfl rfl rfl calm j _ s12 (wipe σ8 vs') H12 (fun _ _ => False) I12 (rest' n12) st12 more') fun r s13 ⟨u', hr, h13⟩ => ?_
            subst hr
            refine thnF h13 fun _ s14 ⟨x', H14, I14, r14, y14, st14, n14⟩ => ?_
            refine thnF (pg'.run _ s14 (wipe σ8 vs') H14 x' u' _ (I14.pinned (rest' n14) (T'.obj _ _ st14)) r14 (step' x' H14 y14)) fun _ s15 ⟨σ15, H15, I15, hw15, q15⟩ => ?_
            refine thnF (pt'.run _ s15 σ15 H15 _ I15 q15) fun b' s16 ⟨H16, I16, q16⟩ => ?_
            have back' : ∀ {s' : Shared} {H' : Hp}, Inv (X.blk { s2 with heap := s2.heap.push (emptySet X.w) } H3 sc ce fp) (([] ++ pinsAt fp s7.heap) ++ pinsAt fp' s14.heap) σ15 H' s' → Nx' H' → ∃ m, m < k ∧ Go' m s' := by
              intro s' H' I' nx
              obtain ⟨m', hm, w'⟩ := hNx' H' nx
              have pin : ∀ b ∈ fp', ∀ o, s14.heap.get? b = some o → s'.heap.get? b = some o ∧ H' b = none := fun b hb o e =>
                let z := I'.pin (b, o) (List.mem_append_right _ (List.mem_append_right _ (mem_pinsAt hb e))); ⟨z.1, z.2.1⟩
              refine ⟨m', hm, ?_⟩
              rw [hGo']
              refine ⟨j + 1, H', I'.unpinned.weak (by rw [← hw15, wipe_length]) (fun l v e => by rw [← hw15] at e; exact (wipe_some e).1), T'.keep _ _ _ st14 fun b hb o e => (pin b hb o e).1, fun b hb => ?_, w'⟩
              obtain ⟨o, e, _⟩ := T'.obj _ _ st14 b hb
              exact (pin b hb o e).2
            cases b' with
            | false => simp only [Bool.false_eq_true, if_false] at q16 ⊢; exact back' I16 q16
            | true =>
              simp only [if_true] at q16 ⊢
              refine thnF (pe.run _ s16 σ15 H16 _ I16 q16) fun z s17 ⟨yv, H17, I17, r17, num, S0, c0, ey, hD17, few, nx⟩ => ?_
              subst ey
              obtain ⟨t, rfl⟩ := r17
              exact putInt (X := X.blk _ H3 sc ce fp) I17 hD17 few fun s18 I18 => back' I18 nx
        exact scx_startB inner (T'.self X.A 0 _ _ _ st11 inner)
  exact codeAny_compStart_set round (T.self X.A 0 _ _ _ st4 round)
end
end Rp

/-! ATOMs: their variables, a BINDING put into them. -/
namespace Rp
open PySem PySem.Spec PyProof.Rows L2 TL NdefX LamX StX PpSet
theorem walk_lst {K : PySem.W.Frag} {a : Addr} {xs : List V} {B : V → Hp → (Hp → Prop) → Prop} {H1 : Hp} {Done : Hp → Prop} (Pv : Nat → Hp → Prop) (h0 : Pv 0 H1) (hl : ∀ i H, i ≤ xs.length → Pv i H → SqL K H a xs)
    (hs : ∀ i x H, xs[i]? = some x → Pv i H → B x H (Pv (i + 1))) (hd : ∀ H, Pv xs.length H → Done H) :
    ∃ W : Nat → Nat → Hp → Prop, (∃ m, W 0 m H1) ∧ ∀ i m H, W i m H →
      ((Itl K a).stop i H ∧ Done H) ∨ ((Itl K a).go i H ∧ ∃ Nx : Hp → Prop, (∀ H', Nx H' → ∃ m', m' < m ∧ W (i + 1) m' H') ∧ ∀ x H', (Itl K a).yld i H x H' → B x H' Nx) := by
  refine ⟨fun i m H => m = xs.length - i ∧ i ≤ xs.length ∧ Pv i H, ⟨xs.length, by simp, Nat.zero_le _, h0⟩, ?_⟩
  rintro i m H ⟨rfl, hi, p⟩
  have q := hl i H hi p
  by_cases hlt : i < xs.length
  · refine .inr ⟨⟨xs, xs[i], q, by simp [hlt]⟩, Pv (i + 1), fun H' p' => ⟨xs.length - (i + 1), by omega, rfl, hlt, p'⟩, fun x H' y => ?_⟩
    obtain ⟨e, y⟩ := y
    subst e
    exact hs i x _ (y xs q) p
  · have e : i = xs.length := by omega
    subst e
    exact .inl ⟨⟨xs, q, Nat.le_refl _⟩, hd H p⟩
/-- an ATOM stands as the value v -/
def AmAt (H : Hp) (v : V) (p : Str) (ts : List Tm) : Prop := ∃ (a : Addr) (xs : List V), v = .ref a ∧ H a = some (.tup (.str p :: xs)) ∧ AllAt H xs ts
theorem AmAt.mono {H H' : Hp} {v : V} {p : Str} {ts : List Tm} (e : ∀ a xs, H a = some (.tup xs) → H' a = some (.tup xs)) : AmAt H v p ts → AmAt H' v p ts := fun ⟨a, xs, h1, h2, h3⟩ => ⟨a, xs, h1, e _ _ h2, h3.mono e⟩
/-- all but D and the tables stays -/
structure ExtB (T : List NTab) (D : Addr) (H H' : Hp) : Prop where
  ext : ∀ c o, H c = some o → c ≠ D → (∀ ps, o ≠ .tbl ps) → H' c = some o
  tab : TabsN T H'
theorem code_lst {c : Addr} {q : Str} {xs : List V} : CodeO c q ≠ .lst xs := fun z => by unfold CodeO at z; cases z
theorem tabs_but {T : List NTab} {H H' : Hp} {D : Addr} {xs : List V} (t : TabsN T H) (hD : H D = some (.lst xs)) (o : But D H H') : TabsN T H' := fun p hp => by
  obtain ⟨ps, h1, h2, h3⟩ := t p hp
  refine ⟨ps, o _ _ h1 (ne_of h1 hD (by intro z; cases z)), h2, fun pos cv hc => ?_⟩
  obtain ⟨c, e1, e2⟩ := h3 pos cv hc
  exact ⟨c, e1, o _ _ e2 (ne_of e2 hD code_lst)⟩
theorem ExtB.refl {T : List NTab} {D : Addr} {H : Hp} (t : TabsN T H) : ExtB T D H H := ⟨fun _ _ h _ _ => h, t⟩
theorem ExtB.trans {T : List NTab} {D : Addr} {H H1 H2 : Hp} (a : ExtB T D H H1) (b : ExtB T D H1 H2) : ExtB T D H H2 := ⟨fun c o h n m => b.ext c o (a.ext c o h n m) n m, b.tab⟩
theorem Ext.toB {T : List NTab} {D : Addr} {H H' : Hp} (e : Ext T H H') : ExtB T D H H' := ⟨fun c o h _ m => e.ext c o h m, e.tab⟩
theorem ExtB.but {T : List NTab} {D : Addr} {xs : List V} {H H' : Hp} (t : TabsN T H) (hD : H D = some (.lst xs)) (o : But D H H') : ExtB T D H H' := ⟨fun c u h n _ => o c u h n, tabs_but t hD o⟩
theorem ExtB.same {T : List NTab} {D : Addr} {H H' : Hp} (t : TabsN T H) (s : Same H H') : ExtB T D H H' := ⟨fun c u h _ _ => s c u h, t.ext s⟩
theorem ExtB.tups {T : List NTab} {D : Addr} {xs : List V} {H H' : Hp} (e : ExtB T D H H') (hD : H D = some (.lst xs)) : Tups H H' :=
  ⟨fun _ _ h => e.ext _ _ h (ne_of h hD (by intro z; cases z)) (fun _ z => by cases z), fun _ _ _ h => e.ext _ _ h (ne_of h hD (by intro z; cases z)) (fun _ z => by cases z)⟩
theorem ExtB.lst {T : List NTab} {D : Addr} {H H' : Hp} (e : ExtB T D H H') {a : Addr} {xs : List V} (h : H a = some (.lst xs)) (n : a ≠ D) : H' a = some (.lst xs) := e.ext _ _ h n fun _ z => by cases z
theorem nums_half : ∀ t : Tm, 2 * t.nums.length ≤ t.size + 1
  | .v n => by simp [Tm.nums, Tm.size]
  | .z => by simp [Tm.nums, Tm.size]
  | .s t => by have := nums_half t; simp only [Tm.nums, Tm.size]; omega
  | .f l r => by have := nums_half l; have := nums_half r; simp only [Tm.nums, Tm.size, List.length_append]; omega
theorem rising_few {ns ms : List Int} (h : ns.Pairwise (· < ·)) (sub : ∀ k ∈ ns, k ∈ ms) : ns.length ≤ ms.length := by
  induction ns generalizing ms with
  | nil => exact Nat.zero_le _
  | cons n r ih =>
    obtain ⟨h1, h2⟩ := List.pairwise_cons.mp h
    have hn := sub n (by simp)
    have := ih (ms := ms.erase n) h2 fun k hk => (List.mem_erase_of_ne (by have := h1 k hk; omega)).mpr (sub k (by simp [hk]))
    rw [List.length_erase_of_mem hn] at this
    have : 0 < ms.length := List.length_pos_of_mem hn
    simp only [List.length_cons]
    omega
def spAVars : Sp := fun vs H Q _ => ∃ (v : V) (p : Str) (ts : List Tm), vs = [v] ∧ AmAt H v p ts ∧ ts.length ≤ 2 ∧ (∀ t ∈ ts, t.size ≤ 40) ∧ ∀ (g : Addr) (ns : List Int) (H' : Hp), H g = none → H' g = some (.lst (ns.map V.int)) → ns.Pairwise (· < ·) → (∀ k, k ∈ ns ↔ k ∈ ts.flatMap Tm.nums) → Same H H' → Q (.ref g) H'
def spAPut (T : List NTab) : Sp := fun vs H Q _ => ∃ (v : V) (p : Str) (ts : List Tm) (a : Addr) (bd : Bd), vs = [v, .ref a] ∧ AmAt H v p ts ∧ ts.length ≤ 2 ∧ (∀ t ∈ ts, t.size ≤ 1000) ∧ BdAt H a bd ∧ TabsN T H ∧
  ∀ (v' : V) (H' : Hp), AmAt H' v' p (ts.map (Tm.put bd)) → Ext T H H' → Q v' H'
abbrev NAV : List Str := ["atom", "term", "variable"]
abbrev NAP : List Str := ["atom", "binding", "term"]
section
variable {P : Program} {w : World} {K : PySem.W.Frag} {mg : Str → Option Value} {base : Heap}
theorem scAV : FnScope NAV ["atom"] (defScope sAtomVars) := ⟨rfl, rfl, rfl, by decide +kernel, rfl, by decide +kernel, by decide +kernel⟩
theorem scAP : FnScope NAP ["atom", "binding"] (defScope sAtomPut) := ⟨rfl, rfl, rfl, by decide +kernel, rfl, by decide +kernel, by decide +kernel⟩
def teVars : TE := fun σ H Q => tCons (tVar 1) tNil σ H fun vs H1 => spVars vs H1 Q E0
theorem ok_avars {f fV : Addr} {fd dV : FuncData} (F : Fun K "atom_variables" "atom_variables" sAtomVars f fd) (GV : FnOk P w K mg base CX0 3 fV dV ["term"] spVars) (kV : PySem.W.keepIn K (.ref fV) = true) (bV : Binds K dV ["term"] []) (mV : mg "variables" = some (.ref fV))
    (mSorted : mg "sorted" = none) : FnOk P w K mg base CX0 4 f fd ["atom"] spAVars := by
  refine F.ok scAV (fun vs H Q E h => ?_) (fun cdv A outer s H vs Q E hr h => ?_)
  · obtain ⟨v, p, ts, rfl, _⟩ := h
    rfl
  obtain ⟨v, p, ts, rfl, ⟨a, xs, rfl, ha, AT⟩, t2, tz, q⟩ := h
  refine ⟨_, pss_one (ps_ret (pe_callB (cr_sortedSet rfl) (by rfl) mSorted (by decide +kernel) (pa_cons (pe_scI2 (own := [("term", 1), ("variable", 2)]) (vs' := [2]) (g := gName 1) (tt := tYes) (wi' := iList K teVars) (g' := gName 2) (tt' := tYes) (te := tVar 2) rfl scAV.nd
      (pi_tup (pe_slice sl_tup (pv 0) (po_some pe_int) po_none)) (blkOk_by (N := NAV) (sc := defScope sAtomVars) (by decide +kernel)) (by decide) (fun _ _ _ _ _ => pg_name (i := 1) scAV.nd rfl (Or.inl rfl)) (fun _ _ _ _ _ => pts_nil)
      (fun _ _ _ _ _ => pi_list (pe_call GV hr (by rfl) mV kV bV .nil pass0 (pa_cons (pv 1) pa_nil))) (fun _ _ _ _ _ => pg_name (i := 2) scAV.nd rfl (Or.inl rfl)) (fun _ _ _ _ _ => pts_nil)
      (fun _ _ _ _ _ => pv 2)) pa_nil))), ?_⟩
  refine ⟨_, rfl, 1, rfl, a, _, rfl, .inl (.inl ha), cut_part _ _, fun g hg => ?_⟩
  rw [cut_tail]
  have s1 := same_new hg (.tup xs)
  have xl := AT.len
  have hgg : (upd H g (.tup xs)) g = some (.tup xs) := upd_same
  generalize hH1 : upd H g (.tup xs) = H1 at s1 hgg
  refine ⟨g, rfl, ⟨_, .inl (.inl hgg)⟩, fun D hD => walk_tup (K := K) (a := g) (xs := xs) (fun i H2 => ∃ (S : Int → Bool) (n : Nat), H2 D = some (SetO w D S n) ∧ n ≤ 20 * i ∧ (∀ k, S k = true ↔ k ∈ (ts.take i).flatMap Tm.nums) ∧ Same H1 H2)
    ⟨_, 0, upd_same, Nat.le_refl _, fun k => by simp, same_new hD _⟩ (fun i H2 _ ⟨_, _, _, _, _, z⟩ => .inl (.inl (z _ _ hgg))) ?_ ?_⟩
  · rintro i x H2 hi ⟨S, n, hS, hn, hm, hk⟩
    obtain ⟨t, ht, Tx⟩ := AT.get hi
    have tz1 := tz t (List.mem_of_getElem? ht)
    have li : i < xs.length := (List.getElem?_eq_some_iff.mp hi).1
    refine ⟨rfl, ?_⟩
    unfold teVars
    refine ⟨_, rfl, x, t, rfl, Tx.same (s1.trans hk), by omega, fun l ns H3 hl h3 up mem s3 => ?_⟩
    have few := rising_few up fun k hk => (mem k).1 hk
    have half := nums_half t
    have lD : l ≠ D := (ne_of_none hS hl).symm
    have lim : (100 : Nat) < scanBound := by decide
    refine ⟨l, rfl, ⟨_, .inl (.inl h3)⟩, walk_lst (K := K) (a := l) (xs := ns.map V.int) (fun j H4 => ∃ (S' : Int → Bool) (n' : Nat), H4 D = some (SetO w D S' n') ∧ n' ≤ n + j ∧ (∀ k, S' k = true ↔ (k ∈ (ts.take i).flatMap Tm.nums ∨ k ∈ ns.take j)) ∧ But D H3 H4)
      ⟨S, n, s3 _ _ hS, by omega, fun k => by rw [hm k]; simp, But.refl _ _⟩ (fun j H4 _ ⟨_, _, _, _, _, z⟩ => .inl (.inl (z _ _ h3 lD))) ?_ ?_⟩
    · rintro j y H4 hj ⟨S', n', hS', hn', hm', o4⟩
      rw [List.getElem?_map] at hj
      obtain ⟨m, hm1, rfl⟩ : ∃ m, ns[j]? = some m ∧ y = .int m := by
        cases e : ns[j]? with
        | none => rw [e] at hj; cases hj
        | some m => rw [e] at hj; exact ⟨m, rfl, (by simpa using hj.symm)⟩
      have lj : j < ns.length := (List.getElem?_eq_some_iff.mp hm1).1
      refine ⟨rfl, _, rfl, m, S', n', rfl, hS', Nat.lt_of_le_of_lt (by omega : n' + 1 ≤ 100) lim, ?_⟩
      refine ⟨_, _, upd_same, ?_, fun k => ?_, fun c o z nc => ?_⟩
      · split <;> omega
      · have tk : ns.take (j + 1) = ns.take j ++ [m] := by rw [List.take_add_one, hm1]; rfl
        rw [tk, Bool.or_eq_true, hm' k, List.mem_append, List.mem_singleton, decide_eq_true_eq, or_assoc]
      · rw [upd_ne nc]; exact o4 _ _ z nc
    · rintro H4 ⟨S', n', hS', hn', hm', o4⟩
      rw [List.length_map] at hn' hm'
      have tk : ts.take (i + 1) = ts.take i ++ [t] := by rw [List.take_add_one, ht]; rfl
      refine ⟨S', n', hS', by omega, fun k => ?_, fun c o z => o4 _ _ (s3 _ _ (hk _ _ z)) (ne_of_none z hD)⟩
      rw [hm' k, List.take_length, tk, List.flatMap_append, List.mem_append, mem k]
      simp
  · rintro H2 ⟨S, n, hS, hn, hm, hk⟩
    refine ⟨D, S, n, rfl, hS, by omega, fun ns p2 up mem len hp2 => ?_⟩
    refine q p2 ns _ ?_ upd_same up (fun k => ?_) ((s1.trans hk).trans (same_new hp2 _))
    · exact same_none (s1.trans hk) _ hp2
    · rw [mem k, hm k, xl, List.take_length]
def tePut (K : PySem.W.Frag) (T : List NTab) : TE := fun σ H Q => tCons (tVar 2) (tCons (tVar 1) tNil) σ H fun vs H1 => spPut T vs H1 Q E0
theorem ok_aput {T : List NTab} {f fU : Addr} {fd dU : FuncData} (F : Fun K "atom_put" "atom_put" sAtomPut f fd) (GU : FnOk P w K mg base CX0 4 fU dU ["term", "binding"] (spPut T)) (kU : PySem.W.keepIn K (.ref fU) = true) (bU : Binds K dU ["term", "binding"] []) (mU : mg "put" = some (.ref fU)) :
    FnOk P w K mg base CX0 5 f fd ["atom", "binding"] (spAPut T) := by
  refine F.ok scAP (fun vs H Q E h => ?_) (fun cdv A outer s H vs Q E hr h => ?_)
  · obtain ⟨v, p, ts, a, bd, rfl, _⟩ := h
    rfl
  obtain ⟨v, p, ts, ab, bd, rfl, ⟨a, xs, rfl, ha, AT⟩, t2, tz, B, hT, q⟩ := h
  refine ⟨_, pss_one (ps_ret (pe_tup (pa_cons (pe_ix ix_tup (pv 0) pe_int (fun _ _ => rfl)) (pa_star (pe_lc (own := [("term", 2)]) (g := gName 2) (tt := tYes) (te := tePut K T) rfl scAP.nd (pi_tup (pe_slice sl_tup (pv 0) (po_some pe_int) po_none))
      (blkOk_by (N := NAP) (sc := defScope sAtomPut) (by decide +kernel)) (fun _ _ _ _ _ => pg_name (i := 2) scAP.nd rfl (Or.inl rfl)) (fun _ _ _ _ _ => pts_nil)
      (fun _ _ _ _ _ => pe_call GU hr (by rfl) mU kU bU .nil pass0 (pa_cons (pv 2) (pa_cons (pv 1) pa_nil)))) pa_nil)))), ?_⟩
  refine ⟨_, rfl, _, _, _, _, rfl, rfl, .inl (.inl ha), at_of (j := 0) rfl rfl, ?_⟩
  refine ⟨_, rfl, 1, rfl, a, _, rfl, .inl (.inl ha), cut_part _ _, fun g hg => ?_⟩
  rw [cut_tail]
  have s1 := same_new hg (.tup xs)
  have xl := AT.len
  have hgg : (upd H g (.tup xs)) g = some (.tup xs) := upd_same
  generalize hH1 : upd H g (.tup xs) = H1 at s1 hgg
  refine ⟨g, rfl, ⟨_, .inl (.inl hgg)⟩, fun D hD => walk_tup (K := K) (a := g) (xs := xs) (fun i H2 => ∃ ys : List V, H2 D = some (.lst ys) ∧ AllAt H2 ys ((ts.take i).map (Tm.put bd)) ∧ ys.length = i ∧ ExtB T D (upd H1 D (.lst [])) H2 ∧ ∀ b, H2 b = none → H b = none)
    ⟨[], upd_same, trivial, rfl, ExtB.refl ((hT.ext s1).ext (same_new hD _)), fun b z => same_none (s1.trans (same_new hD _)) b z⟩ (fun i H2 _ ⟨_, _, _, _, e, _⟩ => .inl (.inl ((e.tups upd_same).1 _ _ ((same_new hD _) _ _ hgg)))) ?_ ?_⟩
  · rintro i x H2 hi ⟨ys, h2, A2, yl, e2, nn⟩
    obtain ⟨t, ht, Tx⟩ := AT.get hi
    have li : i < xs.length := (List.getElem?_eq_some_iff.mp hi).1
    have u2 : Tups H H2 := (Tups.same (s1.trans (same_new hD _))).trans (e2.tups upd_same)
    have tk : ts.take (i + 1) = ts.take i ++ [t] := by rw [List.take_add_one, ht]; rfl
    refine ⟨rfl, ?_⟩
    unfold tePut
    refine ⟨_, rfl, _, rfl, x, t, ab, bd, rfl, Tx.mono u2.1, tz t (List.mem_of_getElem? ht), B.mono u2, e2.tab, fun v' H3 T3 e3 => ?_⟩
    have h3 := e3.lst h2
    have u4 : Tups H3 (upd H3 D (.lst (ys ++ [v']))) := Tups.but (but_upd _) h3
    have big : (10 : Nat) < sizeLine := by decide
    refine ⟨ys, h3, by omega, ys ++ [v'], upd_same, ?_, by rw [List.length_append, yl]; rfl, (e2.trans e3.toB).trans (ExtB.but e3.tab h3 (but_upd _)), fun b z => nn b (e3.nn b (upd_none z))⟩
    rw [tk, List.map_append]
    exact ((A2.mono e3.tups.1).mono u4.1).append ⟨T3.mono u4.1, trivial⟩
  · rintro H2 ⟨ys, h2, A2, yl, e2, nn⟩
    rw [xl, List.take_length] at A2
    have u2 : Tups H H2 := (Tups.same (s1.trans (same_new hD _))).trans (e2.tups upd_same)
    refine ⟨D, ys, rfl, .inr (.inl (.inl h2)), ?_, fun c hc => ?_⟩
    · have := A2.len
      rw [List.length_map] at this
      have big : (10 : Nat) < sizeLine := by decide
      show (_ :: (ys ++ [])).length ≤ _
      rw [List.append_nil, List.length_cons]; omega
    · have s3 := same_new hc (.tup (V.str p :: (ys ++ [])))
      refine q (.ref c) _ ⟨c, ys, rfl, by rw [upd_same, List.append_nil], A2.mono (Tups.same s3).1⟩ ⟨fun b o z m => ?_, e2.tab.ext s3, fun b z => nn b (upd_none z)⟩
      have z1 := s1 _ _ z
      exact s3 _ _ (e2.ext _ _ ((same_new hD _) _ _ z1) (ne_of_none z1 hD) m)
end
end Rp

set_option maxHeartbeats 8000000
/-! What a dict of words comes to know when told a rule; the word that clashes. -/
namespace Rp
open PySem PySem.Spec PyProof.Rows L2 TL StX
def ctV (a : At) : V := .int ((a.ts.length : Nat) : Int)
def clash : KVs → List At → Option Str
  | _, [] => none
  | kvs, a :: r => match valV kvs (.inr a.nm) with
    | some v => if v = ctV a then clash kvs r else some a.nm
    | none => clash (putK kvs (.inr a.nm) (ctV a)) r
/-- what is known behind the atoms (where nothing clashes) -/
def knows (kvs : KVs) (as : List At) : KVs := as.foldl (fun k a => putK k (.inr a.nm) (ctV a)) kvs
structure Kd (kvs : KVs) : Prop where
  nd : (kvs.map (·.1)).Nodup
  nm : ∀ kv ∈ kvs, ∃ (x : Str) (m : Nat), kv = (.inr x, .int (m : Nat))
theorem Kd.nil : Kd [] := ⟨List.nodup_nil, by simp⟩
theorem valV_mem {kvs : KVs} {k : L2.Key} {v : V} (h : valV kvs k = some v) : (k, v) ∈ kvs := by
  unfold valV at h
  cases e : kvs.find? (fun kv => decide (kv.1 = k)) with
  | none => rw [e] at h; cases h
  | some p =>
    rw [e] at h
    obtain rfl := Option.some.inj h
    have h1 := List.mem_of_find?_eq_some e
    have h2 : p.1 = k := of_decide_eq_true (List.find?_some (p := fun kv : L2.Key × V => decide (kv.1 = k)) e)
    rw [← h2]; exact h1
theorem Kd.val {kvs : KVs} (K : Kd kvs) {x : Str} {v : V} (h : valV kvs (.inr x) = some v) : ∃ m : Nat, v = .int (m : Nat) := by
  obtain ⟨y, m, e⟩ := K.nm _ (valV_mem h)
  exact ⟨m, congrArg (·.2) e⟩
theorem putK_new {kvs : KVs} {k : L2.Key} {v : V} (h : valV kvs k = none) : putK kvs k v = kvs ++ [(k, v)] := by
  unfold putK
  rw [valV_any, h]
  rfl
theorem putK_old {kvs : KVs} {k : L2.Key} {v : V} (nd : (kvs.map (·.1)).Nodup) (h : valV kvs k = some v) : putK kvs k v = kvs := by
  unfold putK
  rw [valV_any, h]
  show kvs.map (fun kv => if kv.1 = k then (kv.1, v) else kv) = kvs
  have hm := valV_mem h
  clear h
  have : ∀ kv ∈ kvs, (if kv.1 = k then (kv.1, v) else kv) = kv := by
    intro kv hkv
    by_cases e : kv.1 = k
    · rw [if_pos e]
      obtain ⟨k1, v1⟩ := kv
      subst e
      have e2 : v1 = v := by
        induction kvs with
        | nil => simp at hm
        | cons p r ih =>
          rw [List.map_cons, List.nodup_cons] at nd
          rcases List.mem_cons.mp hkv with h1 | h1 <;> rcases List.mem_cons.mp hm with h2 | h2
          · rw [← h2] at h1; exact congrArg (·.2) h1
          · exact absurd (List.mem_map.mpr ⟨_, h2, by rw [← h1]⟩) nd.1
          · exact absurd (List.mem_map.mpr ⟨_, h1, by rw [← h2]⟩) nd.1
          · exact ih nd.2 h1 h2
      rw [e2]
    · rw [if_neg e]
  exact (List.map_congr_left this).trans (List.map_id' kvs)
theorem Kd.put {kvs : KVs} (K : Kd kvs) {x : Str} {m : Nat} (h : valV kvs (.inr x) = none) : Kd (putK kvs (.inr x) (.int (m : Nat))) := by
  rw [putK_new h]
  refine ⟨?_, ?_⟩
  · rw [List.map_append, List.nodup_append]
    refine ⟨K.nd, by simp, fun a ha b hb => ?_⟩
    simp at hb
    subst hb
    rintro rfl
    obtain ⟨kv, hkv, e⟩ := List.mem_map.mp ha
    have : (kvs.any fun kv => decide (kv.1 = .inr x)) = true := List.any_eq_true.mpr ⟨kv, hkv, decide_eq_true e⟩
    rw [valV_any, h] at this
    cases this
  · intro kv hkv
    rcases List.mem_append.mp hkv with h1 | h1
    · exact K.nm kv h1
    · simp at h1
      exact ⟨x, m, h1⟩
/-- behind atoms that don't clash -/
theorem clash_step {kvs : KVs} {a : At} {r : List At} (K : Kd kvs) : (∃ m : Nat, valV kvs (.inr a.nm) = some (.int (m : Nat)) ∧ ((m = a.ts.length ∧ clash kvs (a :: r) = clash kvs r ∧ putK kvs (.inr a.nm) (ctV a) = kvs) ∨ (m ≠ a.ts.length ∧ clash kvs (a :: r) = some a.nm))) ∨
    (valV kvs (.inr a.nm) = none ∧ clash kvs (a :: r) = clash (putK kvs (.inr a.nm) (ctV a)) r ∧ Kd (putK kvs (.inr a.nm) (ctV a))) := by
  cases e : valV kvs (.inr a.nm) with
  | none => exact .inr ⟨rfl, by rw [clash, e], K.put e⟩
  | some v =>
    obtain ⟨m, rfl⟩ := K.val e
    refine .inl ⟨m, rfl, ?_⟩
    by_cases h : m = a.ts.length
    · subst h
      exact .inl ⟨rfl, by rw [clash, e]; exact if_pos rfl, putK_old K.nd e⟩
    · refine .inr ⟨h, ?_⟩
      rw [clash, e]
      refine if_neg fun z => h ?_
      unfold ctV at z
      have := V.int.inj z
      omega
theorem knows_ok : ∀ {as : List At} {kvs : KVs}, Kd kvs → clash kvs as = none → Kd (knows kvs as)
  | [], _, K, _ => K
  | a :: r, kvs, K, h => by
    show Kd (knows (putK kvs (.inr a.nm) (ctV a)) r)
    rcases clash_step (a := a) (r := r) K with ⟨m, e, ⟨_, c, p⟩ | ⟨_, c⟩⟩ | ⟨_, c, k2⟩
    · rw [p]; exact knows_ok K (c ▸ h)
    · rw [c] at h; cases h
    · exact knows_ok k2 (c ▸ h)
theorem knows_le : ∀ {as : List At} {kvs : KVs}, (knows kvs as).length ≤ kvs.length + as.length
  | [], _ => Nat.le_refl _
  | a :: r, kvs => by
    have h1 := knows_le (as := r) (kvs := putK kvs (.inr a.nm) (ctV a))
    have h2 := putK_le kvs (.inr a.nm) (ctV a)
    show (knows (putK kvs (.inr a.nm) (ctV a)) r).length ≤ _
    rw [List.length_cons]; omega
theorem cat1_ok {K : PySem.W.Frag} {t q0 : Addr} {vh : V} {xs : List V} {H2 : Hp} {Q : VK} (ht : H2 t = some (.tup [vh])) (hq : H2 q0 = some (.tup xs)) (xl : xs.length ≤ 100) (k : ∀ (g : Addr) (H3 : Hp), H3 g = some (.tup (vh :: xs)) → Same H2 H3 → Q (.ref g) H3) :
    rCatT K (.ref t) (.ref q0) H2 Q := by
  have big : (10000 : Nat) ≤ sizeLine := by decide
  refine ⟨t, q0, [vh], xs, rfl, rfl, .inl (.inl ht), .inl (.inl hq), by simp, by simp; omega, fun e => ?_, fun e g hg => k g _ upd_same (same_new hg _)⟩
  subst e
  exact k t H2 ht (fun _ _ z => z)
theorem at_first (x : V) (xs : List V) : atI (x :: xs) 0 = some x := by
  unfold atI ixN
  rw [if_pos (Int.le_refl 0), if_pos (by rw [List.length_cons]; omega)]
  rfl
def optV : Option Str → V
  | some x => .str x
  | none => .non
def spDue : Sp := fun vs H Q _ => ∃ (d : Addr) (v : V) (kvs : KVs) (r : Ru), vs = [.ref d, v] ∧ H d = some (.dK kvs) ∧ Kd kvs ∧ kvs.length ≤ 900 ∧ r.bd.length ≤ 9 ∧ RuAt H v r ∧ ∀ H', Same H H' → Q (optV (clash kvs (r.hd :: r.bd))) H'
def spToldOn : Sp := fun vs H Q _ => ∃ (d : Addr) (v : V) (kvs : KVs) (r : Ru), vs = [.ref d, v] ∧ H d = some (.dK kvs) ∧ kvs.length ≤ 900 ∧ r.bd.length ≤ 9 ∧ RuAt H v r ∧
  ∀ (p : Addr) (H' : Hp), H p = none → H' p = some (.dK (knows kvs (r.hd :: r.bd))) → Same H H' → Q (.ref p) H'
section
variable {P : Program} {w : World} {K : PySem.W.Frag} {mg : Str → Option Value} {base : Heap}
end
end Rp

/-! A caught exception that outlives its clause: `except X as e: kept = e`; behind the clause it is an object like others. -/
namespace Rp
open PySem PySem.Spec PyProof.Rows L2
/-- an exception object, raised or not: its class, its own dict -/
def exg (a : Addr) (cls : Value) (d : Option Addr) : HO := .ext fun h => ∃ (oe : Obj) (vs : Array Value), h.get? a = some oe ∧ Zc cls d oe ∧ oe.data = .fields vs
theorem exg_ok {P : Program} {w : World} {H : Hp} {h : Heap} {a : Addr} {cls : Value} {d : Option Addr} {oe : Obj} {vs : Array Value} (e : h.get? a = some oe) (z : Zc cls d oe) (q : oe.data = .fields vs) : ObjOk P w H h a (exg a cls d) :=
  ⟨⟨oe, vs, e, z, q⟩, ⟨oe, e⟩, fun _ _ ⟨o, v, r⟩ k => ⟨o, v, k o r.1, r.2⟩⟩
section
variable {X : Cx} {pins : List (Addr × Obj)} {σ : L2.St} {H : Hp} {s : Shared}
/-- an object that is there already comes to be tracked -/
theorem track {a : Addr} {o : HO} (I : Inv X pins σ H s) (hn : H a = none) (old : ∀ b u, X.s_0.heap.get? b = some u → b ∉ X.ex → b ≠ a) (nl : X.env.locals ≠ a) (nc : ∀ v, ¬ s.heap.IsCell a v) (np : ∀ p ∈ X.pn ++ pins, p.1 ≠ a)
    (new : ObjOk X.prog X.w (upd H a o) s.heap a o) : Inv X pins σ (upd H a o) s where
  ok := I.ok
  os := I.os
  bare := I.bare
  base :=
    { keep := I.base.keep
      slot := I.base.slot
      free := fun b u e n hx => by rw [upd_ne (old b u e hx)]; exact I.base.free b u e n hx
      there := I.base.there
      tups := fun b xs e => by
        have q := I.base.tups b xs e
        rw [upd_ne (ne_of_none q hn)]; exact q
      frzs := fun b u v e => by
        have q := I.base.frzs b u v e
        rw [upd_ne (ne_of_none q hn)]; exact q
      tbls := fun b ps e => by
        obtain ⟨m, q⟩ := I.base.tbls b ps e
        exact ⟨m, by rw [upd_ne (ne_of_none q hn)]; exact q⟩ }
  loc := I.loc
  cell := I.cell
  free := by rw [upd_ne nl]; exact I.free
  freeC := fun x c e => by
    obtain ⟨v, z⟩ := I.cell x c e
    rw [upd_ne (show c ≠ a from fun q => nc v (by rw [← q]; exact z))]
    exact I.freeC x c e
  pin := fun p hp => by
    obtain ⟨e, n, r⟩ := I.pin p hp
    exact ⟨e, by rw [upd_ne (np p hp)]; exact n, r⟩
  hok := I.hok.laidN (fun _ _ q => q) hn new
  len := I.len
end
/-- what the clause 'except x as n' that keeps its exception wishes of an exception of the body: it is the clause's own; behind the suite the exception is tracked -/
def wKeep (K : PySem.W.Frag) (c : Value) (i : Nat) (ts : Addr → Value → Option Addr → TS) (D : Ends) : WX := fun cls d σ H =>
  PySem.W.exmOne K cls c = some true ∧ ∀ a, H a = none →
    ts a cls d { nx := fun σ' H' => H' a = none → D.nx (σ'.set i none) (upd H' a (exg a cls d)), rt := fun _ _ => False, bk := fun _ _ => False, ct := fun _ _ => False } (σ.set i (some (.ref a))) H
section
variable {X : Cx} {x n : Str} {c : Value} {i : Nat} {body suite : List Stmt} {b₀ : Stmt} {npos pos pos' : Pos} {tb : WX → TS} {ts : Addr → Value → Option Addr → TS}
theorem ps_try_keep (hs : X.stack = X.env :: X.outer) (hf : X.env.frame = some X.env.locals) (hN : X.N.Nodup) (hi : X.N[i]? = some n) (hln : X.env.kindOf n = some .local) (hc : Names X x c)
    (hb : ∀ (W : WX) (pn : List (Addr × Obj)) (xe : Value → Shared → Prop), Takes (X.tr pn xe) W → PassesOwn (model X.prog X.w) X.A X.env xe → PSs (X.tr pn xe) body (tb W))
    (hsu : ∀ (a : Addr) (oe : Obj) (cls : Value) (d : Option Addr) (pn : List (Addr × Obj)), Zc cls d oe → (∃ vs, oe.data = .fields vs) → PSs (X.suite a ((a, oe) :: pn)) (b₀ :: suite) (ts a cls d)) :
    PS X (.Try body [.ExceptHandler (some (.Name x npos)) (some n) (b₀ :: suite) pos'] [] [] pos) (fun D σ H => tb (wKeep X.K c i ts D) D σ H) := by
  refine ⟨fun pins s σ H D I h => ?_⟩
  have ok := I.ok
  have hfr : X.A.frames = some (X.env :: X.outer) := by rw [ok.frames, hs]
  refine wpAny_Try_except (wpAny_mono ((hb (wKeep X.K c i ts D) (X.pn ++ pins) (fun e s₁ => wpAny (model X.prog X.w) X.A (noteFrame e X.env) (fun _ s₂ => wpAny (model X.prog X.w) X.A (setFlight e none) (fun _ s₃ =>
    wpAny (model X.prog X.w) X.A (handleBy e X.env [.ExceptHandler (some (.Name x npos)) (some n) (b₀ :: suite) pos']) (SP X pins D) X.xe s₃) X.xe s₂) X.xe s₁) (fun u s' xx => ?_) PassesOwn.looking).run [] s σ H D (I.toTry _) h) (fun f s1 hsp => ?_) (fun e s1 he => he))
  · obtain ⟨a, B, sI, pins', σ', H', cls, d, rfl, J', nb, up, sky, na, os, ag, hb1, wish⟩ := xx
    have J : Inv X pins σ' H' sI := J'.ofTry ok
    show wpAny (model X.prog X.w) X.A (noteFrame (.ref a) X.env) _ _ _
    refine Sky.land Zc.steady hfr hf (by rw [← hs]; exact sky) fun h3 fl3 up3 => ?_
    -- the exception was made behind the entry: no object of the ground, no frame
    have apart : ∀ {h : Heap}, HandSPX.FlyingZ B (X.env :: X.outer) a (Zc cls d) h → a ∉ frs (X.env :: X.outer) := fun {h} fl hm => by
      obtain ⟨oe, vs, he, _, hd⟩ := fl.there
      obtain ⟨_, o', e', hnf⟩ := fl.2.2.1.mem hm
      rw [he] at e'; cases e'
      exact hnf _ hd
    have nfr := apart fl3
    have nL : a ≠ X.env.locals := fun z => nfr (List.mem_filterMap.mpr ⟨X.env, List.mem_cons_self, by rw [hf, z]⟩)
    have nF : a ∉ X.fs := fun hm => by
      obtain ⟨e, he, q⟩ := List.mem_filterMap.mp hm
      exact nfr (List.mem_filterMap.mpr ⟨e, List.mem_cons_of_mem _ he, q⟩)
    have noI : ∀ b o, sI.heap.get? b = some o → b ≠ a := fun b o e z => by
      subst z
      have := nb b o e (by rw [hs]; exact nfr)
      rw [fl3.2.1] at this; cases this
    have old : ∀ b u, X.s_0.heap.get? b = some u → b ∉ X.ex → b ≠ a := fun b u e hx => by
      obtain ⟨o', e'⟩ := J.base.there b u e hx
      exact noI b o' e'
    have np : ∀ p ∈ X.pn ++ pins, p.1 ≠ a := fun p hp => noI _ _ (J.pin p hp).1
    obtain ⟨oe3, vs3, he3, hz3, hd3⟩ := fl3.there
    have J3 : Inv X pins σ' H' { s' with heap := h3 } := J.landed nb fl3.1 (up.trans up3) os ag
    have S3 := J3.suite he3 hd3 na nL nF
    refine wpAny_handleBy_cons (codeAny_handlers_test ?_) (by intro q; cases q)
    have LT : PySem.W.Looks (model X.prog X.w) h3 (typeOf (.ref a)) cls := fun A Q E s k q => wpAny_typeOf_ref (k _ _ he3) (by rw [hz3.1]; exact q)
    have LM := PySem.W.exm_one (M := model X.prog X.w) J3.kIn LT hb1
    have test : ∀ {Q : Value → Shared → Prop} {E : Value → Shared → Prop}, Q c { s' with heap := h3 } → wpAny (model X.prog X.w) (X.A.mark (some (.ref a))) (eval (.Name x npos) X.env) Q E { s' with heap := h3 } := fun {Q E} q => by
      obtain ⟨hg, hdbg, hm | ⟨hm, hv, hnn⟩⟩ := hc
      · exact ld_glob (X := X.suite a ((a, oe3) :: (X.pn ++ pins))) S3 hg hm q hdbg
      · exact ld_blt (X := X.suite a ((a, oe3) :: (X.pn ++ pins))) S3 hg hm hv q hnn hdbg
    refine test (LM.here ?_)
    refine codeAny_handlers_suite_as (HandSPX.lands_againZ fl3 fun h4 fl4 up4 => ?_)
    obtain ⟨oe4, vs4, he4, hz4, hd4⟩ := fl4.there
    have J4 : Inv X pins σ' H' { s' with heap := h4 } := J.landed nb fl4.1 ((up.trans up3).trans up4) os ag
    have S4 := J4.suite he4 hd4 na nL nF
    refine store_ok (X := X.suite a ((a, oe4) :: (X.pn ++ pins))) (v := .ref a) S4 hN hi (.inl hln) rfl (fun s5 S5 => ?_) (.inr hln)
    refine wpAny_mono ((hsu a oe4 cls d (X.pn ++ pins) hz4 ⟨_, hd4⟩).run [] s5 _ H' _ S5 (wish a na)) (fun f s6 hsp => ?_) (fun _ _ z => False.elim z)
    cases f with
    | next =>
      obtain ⟨σ6, H6, S6, q6⟩ := hsp
      obtain ⟨g6, n6, _⟩ := S6.pin (a, oe4) (List.mem_append_left _ List.mem_cons_self)
      have T6 := track (o := exg a cls d) (S6.unsuite ok) n6 old (Ne.symm nL) (fun v ⟨o, ho, hd⟩ => by rw [g6] at ho; cases ho; rw [hd4] at hd; cases hd) np (exg_ok g6 hz4 hd4)
      exact gone_ok T6 hN hi hln fun s7 J7 => ⟨_, _, J7, q6 n6⟩
    | brk =>
      obtain ⟨_, _, _, q6⟩ := hsp
      exact q6.elim
    | cont =>
      obtain ⟨_, _, _, q6⟩ := hsp
      exact q6.elim
    | ret u =>
      obtain ⟨_, _, _, _, _, q6⟩ := hsp
      exact q6.elim
  · cases f with
    | next =>
      obtain ⟨σ', H', J', q⟩ := hsp
      exact wpAny_execs_nil ⟨σ', H', J'.ofTry ok, q⟩
    | brk =>
      obtain ⟨σ', H', J', q⟩ := hsp
      exact ⟨σ', H', J'.ofTry ok, q⟩
    | cont =>
      obtain ⟨σ', H', J', q⟩ := hsp
      exact ⟨σ', H', J'.ofTry ok, q⟩
    | ret u =>
      obtain ⟨v, σ', H', J', r, q⟩ := hsp
      exact ⟨v, σ', H', J'.ofTry ok, r, q⟩
end
end Rp

/-! A kept exception: asked for its kind, read. -/
namespace Rp
open PySem PySem.Spec PyProof.Rows L2
/-- a kept exception: its class, what it's told with -/
def KpAt (H : Hp) (v : V) (C : Addr) (y : V) : Prop := ∃ (a d : Addr) (fs : List (Str × V)), v = .ref a ∧ H a = some (exg a (.ref C) (some d)) ∧ H d = some (.xd fs) ∧ fs.lookup ("what" : Str) = some y
theorem KpAt.same {H H' : Hp} {v : V} {C : Addr} {y : V} (h : KpAt H v C y) (s : ∀ b u, H b = some u → H' b = some u) : KpAt H' v C y := by
  obtain ⟨a, d, fs, e, h1, h2, h3⟩ := h
  exact ⟨a, d, fs, e, s _ _ h1, s _ _ h2, h3⟩
section
variable {X : Cx} {p pos : Pos} {e : Expr} {es : List Expr} {ta : TA} {te : TE}
theorem kp_inst {pins : List (Addr × Obj)} {σ : L2.St} {H : Hp} {s : Shared} {v : V} {C : Addr} {y : V} (I : Inv X pins σ H s) (h : KpAt H v C y) {u : Value} (r : RelV v u) :
    ∃ (a : Addr) (oe od : Obj), u = .ref a ∧ PySem.W.InstAt s.heap a oe C (some od) ∧ ∃ uy, PySem.W.lookIn "what" od = some (some uy) ∧ RelV y uy := by
  obtain ⟨a, d, fs, rfl, h1, h2, h3⟩ := h
  obtain rfl : u = Value.ref a := r
  obtain ⟨⟨oe, vs, ha, hz, hd⟩, _⟩ := I.hok a _ h1
  have hx : ObjOk X.prog X.w H s.heap d (.xd fs) := I.hok d _ h2
  obtain ⟨mA, hns, hr⟩ := hx
  obtain ⟨od, ho, hl⟩ := lookIn_ns hns
  obtain ⟨uy, hu, ru⟩ := RelO.some_of (v := y) (o := mA "what") (by rw [← h3]; exact hr "what")
  exact ⟨a, oe, od, rfl, ⟨ha, hz.1, by unfold PySem.W.notCls; rw [hd] <;> rfl, by rw [hz.2]; exact ho⟩, uy, by rw [hl, hu], ru⟩
/-- isinstance(e, c), isinstance(e, (c, ..)) -/
def rIsK (K : PySem.W.Frag) : List V → Hp → VK → Prop := fun xs H Q => ∃ (v c : V) (C : Addr) (y : V) (cv : Value) (b : Bool), xs = [v, c] ∧ KpAt H v C y ∧ ExcC K C ∧ ClsV c cv ∧ PySem.W.kitOne K (.ref C) cv = some b ∧ Q (.bl b) H
theorem call_isK : CallR X (.builtin "isinstance") (rIsK X.K) := by
  intro pins s σ H xs us Q I r h
  obtain ⟨v, c, C, y, cv, b, rfl, hv, E, k, e, q⟩ := h
  obtain ⟨u1, u2, rfl, r1, r2⟩ := vals2 r
  have e2 := k.eq r2
  subst e2
  obtain ⟨a, oe, od, rfl, J, _⟩ := kp_inst I hv r1
  have some_ : (PySem.W.clsIn X.K C).isSome = true := by
    obtain ⟨cd, hc, _⟩ := PySem.W.any_some E.hd
    rw [hc]; rfl
  exact PySem.W.kia_one (PySem.W.kitx_exc some_ E.hg E.hk E.hs E.ha E.hn E.ht E.hm) I.kIn J e (fun z => nomatch z) fun tk => ⟨.bl b, H, I.tok tk, rfl, q⟩
def rIsKT (K : PySem.W.Frag) : List V → Hp → VK → Prop := fun xs H Q => ∃ (v : V) (tp : Addr) (cs : List V) (C : Addr) (y : V) (us : List Value) (b : Bool), xs = [v, .ref tp] ∧ H tp = some (.tup cs) ∧ Paired ClsV cs us ∧ KpAt H v C y ∧ ExcC K C ∧ PySem.W.kitAny K (.ref C) us = some b ∧ Q (.bl b) H
theorem call_isKT : CallR X (.builtin "isinstance") (rIsKT X.K) := by
  intro pins s σ H xs us Q I r h
  obtain ⟨v, tp, cs, C, y, ws, b, rfl, hT, k, hv, E, e, q⟩ := h
  obtain ⟨u1, u2, rfl, r1, r2⟩ := vals2 r
  cases (show u2 = Value.ref tp from r2)
  obtain ⟨a, oe, od, rfl, J, _⟩ := kp_inst I hv r1
  obtain ⟨_, its, rv, o, h1, h2, n, h3⟩ := (show ObjOk X.prog X.w H s.heap tp (.tup cs) from I.hok tp _ hT)
  have e3 := ClsV.all k rv
  subst e3
  have some_ : (PySem.W.clsIn X.K C).isSome = true := by
    obtain ⟨cd, hc, _⟩ := PySem.W.any_some E.hd
    rw [hc]; rfl
  obtain ⟨oc, od', dt, sl⟩ := o
  simp only at h2 h3
  subst h2 h3
  exact PySem.W.kia_tup (PySem.W.kitx_exc some_ E.hg E.hk E.hs E.ha E.hn E.ht E.hm) I.kIn J h1 e (fun z => nomatch z) fun tk => ⟨.bl b, H, I.tok tk, rfl, q⟩
/-- e.what -/
def tKpWhat (K : PySem.W.Frag) (te : TE) : TE := fun σ H Q => te σ H fun v H1 => ∃ (C : Addr) (y : V), KpAt H1 v C y ∧ XfC K C ∧ PySem.W.findIn K (.ref C) "what" = some none ∧ Q y H1
theorem pe_kpwhat (he : PE X e te) (hb : attributeBase e "what" X.env (eval e X.env) = eval e X.env := by rfl) : PE X (.Attribute e "what" pos) (tKpWhat X.K te) := by
  refine ⟨fun pins s σ H Q I h => ?_⟩
  refine attr_of hb (thn (he.run pins s σ H _ I h) fun u s1 hh => ?_)
  obtain ⟨v, H1, I1, rx, C, y, hv, T, hno, q⟩ := hh
  obtain ⟨a, oe, od, rfl, J, uy, hl, ru⟩ := kp_inst I1 hv rx
  exact HandSPX.exc_get I1.kIn J T.ga T.gg T.exC (PySem.W.findObj_own T.hdC hno rfl hl) (handed_of ru) ⟨y, H1, I1.tok _, ru, q⟩
end
end Rp

set_option maxHeartbeats 8000000
/-! The errors' __init__; a Definitions object; what its dict comes to be with a rule. -/
namespace Rp
open PySem PySem.Spec PyProof.Rows L2 TL StX
abbrev sErrI : Stmt := inClass sErr 0
abbrev sDInit : Stmt := inClass sDefs 0
abbrev sTell : Stmt := inClass sDefs 1
abbrev sTermsW : Stmt := inClass sDefs 2
abbrev sRules : Stmt := inClass sDefs 3
abbrev sWordsM : Stmt := inClass sDefs 4
abbrev sTermsM : Stmt := inClass sDefs 5
abbrev sAllR : Stmt := inClass sDefs 6
abbrev sEqM : Stmt := inClass sDefs 9
def spXInit (K : PySem.W.Frag) : Sp := fun vs H Q _ => ∃ (a C : Addr) (y : V), vs = [.ref a, y] ∧ OexC K C ∧ PySem.W.findIn K (.ref C) "what" = some none ∧ H a = some (exo a C none) ∧
  ∀ d H', H d = none → d ≠ a → H' = upd (upd H d (exd d [("what", y)])) a (exo a C (some d)) → Q .non H'
/-- an error's class -/
structure ErrK (K : PySem.W.Frag) (fI C : Addr) : Prop where
  oex : OexC K C
  ini : PySem.W.findIn K (.ref C) "__init__" = some (some (.ref fI))
  ty : PySem.W.typeIn K (.ref fI) = some (.type "function")
  wh : PySem.W.findIn K (.ref C) "what" = some none
/-- the class of Definitions -/
structure DfK (K : PySem.W.Frag) (C : Addr) : Prop where
  cls : Cls K C
  nT : NoAttr K C "_told"
  nM : NoAttr K C "_terms"
def dfF (lt dt : Addr) : List (Str × V) := [("_told", .ref lt), ("_terms", .ref dt)]
theorem dfF_told {lt dt : Addr} : (dfF lt dt).lookup ("_told" : Str) = some (.ref lt) := by
  unfold dfF
  rw [List.lookup_cons]
  simp
theorem dfF_terms {lt dt : Addr} : (dfF lt dt).lookup ("_terms" : Str) = some (.ref dt) := by
  unfold dfF
  rw [List.lookup_cons, show ((("_terms" : Str) == ("_told" : Str)) = false) by decide +kernel]
  simp
/-- a Definitions object: what it was told, what it knows -/
structure DfAt (C : Addr) (H : Hp) (p : Addr) (lt : Addr) (vs : List V) (kvs : KVs) : Prop where
  ex : ∃ (dx dt : Addr), H p = some (.ins C dx (dfF lt dt)) ∧ H lt = some (.lst vs) ∧ H dt = some (.dK kvs)
def spTermsW (C CC : Addr) : Sp := fun vs H Q E => ∃ (p lt : Addr) (us : List V) (kvs : KVs) (v : V) (r : Ru), vs = [.ref p, v] ∧ DfAt C H p lt us kvs ∧ Kd kvs ∧ kvs.length ≤ 900 ∧ r.bd.length ≤ 9 ∧ RuAt H v r ∧
  (clash kvs (r.hd :: r.bd) = none → ∀ (q : Addr) (H' : Hp), H q = none → H' q = some (.dK (knows kvs (r.hd :: r.bd))) → Same H H' → Q (.ref q) H') ∧
  (∀ x, clash kvs (r.hd :: r.bd) = some x → ∀ (d : Addr) (fs : List (Str × V)) (H' : Hp), H d = none → H' d = some (.xd fs) → fs.lookup ("what" : Str) = some (.str x) → Same H H' → E (.ref CC) (some d) H')
section
variable {P : Program} {w : World} {K : PySem.W.Frag} {mg : Str → Option Value} {base : Heap}
theorem scErrI : FnScope ["self", "what"] ["self", "what"] (defScope sErrI) := ⟨rfl, rfl, rfl, by decide +kernel, rfl, by decide +kernel, by decide +kernel⟩
theorem ok_xinit {f : Addr} {fd : FuncData} (F : Fun K "__init__" "RingError.__init__" sErrI f fd) (mV : mg "ValueError" = none) (vV : PySem.W.findCls K (.type "ValueError") (.type "type") "__init__" = some (.val (.builtin "ValueError.__init__"))) :
    FnOk P w K mg base CX0 1 f fd ["self", "what"] (spXInit K) := by
  refine F.ok scErrI (fun vs H Q E h => ?_) (fun cdv A outer s H vs Q E hr h => ?_)
  · obtain ⟨a, C, y, rfl, _⟩ := h
    rfl
  obtain ⟨a, C, y, rfl, T, hw, ha, fin⟩ := h
  refine ⟨_, pss_cons (ps_expr (pe_veinit (by rfl) mV vV (pa_cons (pv 0) (pa_cons (pv 1) pa_nil)))) (pss_one (ps_ost (pv 0) (pv 1))), ?_⟩
  refine ⟨_, rfl, _, rfl, a, C, [y], rfl, by simp, T, ha, ?_⟩
  exact ⟨_, rfl, _, rfl, a, C, rfl, T, hw, .inl ⟨ha, fun dx hdx ne => fin dx _ hdx ne rfl⟩⟩
theorem scTermsW : FnScope ["self", "rule", "head", "body", "terms", "atom", "many"] ["self", "rule"] (defScope sTermsW) := ⟨rfl, rfl, rfl, by decide +kernel, rfl, by decide +kernel, by decide +kernel⟩
theorem ok_termsw {f C CC fX : Addr} {fd dX : FuncData} (F : Fun K "_terms_with" "Definitions._terms_with" sTermsW f fd) (D : DfK K C) (EK : ErrK K fX CC) (GX : FnOk P w K mg base CX0 1 fX dX ["self", "what"] (spXInit K)) (bX : Binds K dX ["self", "what"] []) (mCC : mg "Clash" = some (.ref CC))
    (mDict : mg "dict" = none) (mLen : mg "len" = none) : FnOk P w K mg base (L2.CX P w) 3 f fd ["self", "rule"] (spTermsW C CC) := by
  refine F.okX scTermsW (fun vs H Q E h => ?_) (fun cdv A outer s H vs Q E hr h => ?_)
  · obtain ⟨p, lt, us, kvs, v, r, rfl, _⟩ := h
    rfl
  obtain ⟨p, lt, us, kvs, v, r, rfl, ⟨dx, dt, hp, hlt, hdt⟩, kd, kl, rl, ⟨p1, q0, vh, xs, rfl, hp1, hA, hq, hB⟩, qN, qE⟩ := h
  refine ⟨_, pss_cons (ps_asg (pv 1) (pg_tup (by rfl) (pgs_cons (pg_name (i := 2) scTermsW.nd rfl (Or.inl rfl)) (pgs_cons (pg_name (i := 3) scTermsW.nd rfl (Or.inl rfl)) pgs_nil))))
    (pss_cons (ps_set (i := 4) scTermsW.nd rfl (Or.inl rfl) (pe_callTy call_dictD (by rfl) mDict (by decide +kernel) (pa_cons (pe_fld (pv 0) rfl) pa_nil)))
    (pss_cons (ps_for (passes_of rfl) rfl (pi_tup (pe_tup (pa_cons (pv 2) (pa_star (pv 3) pa_nil)))) (pg_name (i := 5) scTermsW.nd rfl (Or.inl rfl))
      (pss_cons (ps_set (i := 6) scTermsW.nd rfl (Or.inl rfl) (pe_op op_sub (pe_callB call_len_seq (by rfl) mLen PySem.boot_len (pa_cons (pv 5) pa_nil)) pe_int))
      (pss_one (ps_if (pt_cmpR op_ne (pe_dsetd (pv 4) (pe_ix ix_tup (pv 5) pe_int (fun _ _ => rfl)) (pv 6) ⟨rfl, rfl, rfl, rfl⟩) (pv 6) (nomark _))
        (pss_one (ps_raise rfl (takes_of rfl rfl rfl rfl) (pmk_oex EK.oex EK.ini EK.ty GX hr bX .nil pass0 (by rfl) mCC (pa_cons (pe_ix ix_tup (pv 5) pe_int (fun _ _ => rfl)) pa_nil)))) pss_nil))))
    (pss_one (ps_ret (pv 4))))), ?_⟩
  have big : (10000 : Nat) ≤ sizeLine := by decide
  have xl := hB.len
  refine ⟨_, rfl, p1, _, rfl, .inl (.inl hp1), rfl, _, _, rfl, _, _, rfl, rfl, ?_⟩
  refine ⟨_, rfl, p, C, dx, _, _, rfl, hp, D.cls, D.nM, dfF_terms, dt, kvs, rfl, .inl hdt, fun m hm => ?_⟩
  have s1 := same_new hm (.dK kvs)
  have hm1 : (upd H m (.dK kvs)) m = some (.dK kvs) := upd_same
  generalize upd H m (.dK kvs) = H1 at s1 hm1 ⊢
  refine ⟨_, rfl, _, rfl, q0, xs, rfl, .inl (.inl (.inl (s1 _ _ hq))), (by rw [List.append_nil, List.length_cons]; omega), fun g hg => ?_⟩
  rw [List.append_nil]
  have s3 := same_new hg (.tup (vh :: xs))
  have h3g : (upd H1 g (.tup (vh :: xs))) g = some (.tup (vh :: xs)) := upd_same
  generalize upd H1 g (.tup (vh :: xs)) = H3 at s3 h3g ⊢
  have s13 := s1.trans s3
  have hm3 := s3 _ _ hm1
  have A3 : AtsAt H3 (vh :: xs) (r.hd :: r.bd) := ⟨atAt_same hA s13, hB.same s13⟩
  have gm : g ≠ m := ne_of h3g hm3 (by intro z; cases z)
  have old : ∀ a o, H a = some o → a ≠ m := fun a o z => ne_of_none z hm
  generalize hvs : vh :: xs = vs at h3g A3
  generalize has : r.hd :: r.bd = as at A3 qN qE
  have al : as.length ≤ 10 := by rw [← has, List.length_cons]; omega
  have vl := A3.len
  refine ⟨g, rfl, ⟨_, .inl (.inl h3g)⟩, for_tup (K := K) (a := g) (xs := vs) (fun i σ H4 => ∃ (x5 x6 : Option V) (kv : KVs), σ = [some (.ref p), some (.ref p1), some vh, some (.ref q0), some (.ref m), x5, x6] ∧ H4 m = some (.dK kv) ∧ Kd kv ∧ clash kvs as = clash kv (as.drop i) ∧ knows kvs as = knows kv (as.drop i) ∧ kv.length ≤ kvs.length + i ∧ But m H3 H4)
    ⟨none, none, kvs, rfl, hm3, kd, rfl, rfl, Nat.le_refl _, But.refl _ _⟩ (fun i σ H4 _ ⟨_, _, _, _, _, _, _, _, _, o⟩ => .inl (.inl (o _ _ h3g gm))) ?_ ?_⟩
  · rintro i x σ H4 hi ⟨x5, x6, kv, rfl, hm4, kd4, ec, ek, kvl, o4⟩
    obtain ⟨a, ha, T⟩ := A3.get hi
    have il : i < as.length := (List.getElem?_eq_some_iff.mp ha).1
    have dr : as.drop i = a :: as.drop (i + 1) := by rw [List.drop_eq_getElem_cons il]; congr 1; exact (List.getElem?_eq_some_iff.mp ha).2
    rw [dr] at ec ek
    obtain ⟨pa, xa, rfl, hpa, TA⟩ := T
    have hpa4 := o4 _ _ hpa (ne_of hpa hm3 (by intro z; cases z))
    have xal := TA.len
    have lenV : V.int ((((V.str a.nm :: xa).length : Nat) : Int) - 1) = ctV a := by
      unfold ctV
      rw [List.length_cons, xal]
      congr 1
      omega
    have sH4 : Same H H4 := fun b o z => o4 _ _ (s13 _ _ z) (old _ _ z)
    refine ⟨_, rfl, ?_⟩
    refine ⟨pa, _, rfl, .inr (.inl (.inl hpa4)), _, _, rfl, rfl, ?_⟩
    show gName 6 (V.int ((((V.str a.nm :: xa).length : Nat) : Int) - 1)) _ H4 _
    rw [lenV]
    refine ⟨_, rfl, m, rfl, .inl ⟨_, .inl hm4⟩, _, rfl, pa, _, 0, .str a.nm, rfl, rfl, .inl (.inl hpa4), at_first _ _, _, rfl, kv, .inr a.nm, hm4, rfl, by omega, fun v hv => ?_, fun hv => ?_⟩
    · refine ⟨_, rfl, ?_⟩
      rcases clash_step (a := a) (r := as.drop (i + 1)) kd4 with ⟨n, e, ⟨en, c, pk⟩ | ⟨en, c⟩⟩ | ⟨e, _, _⟩
      · rw [e] at hv
        obtain rfl := Option.some.inj hv
        subst en
        refine ⟨rfl, false, ?_, iteF ?_⟩
        · show V.bl (!decide (ctV a = ctV a)) = V.bl false
          rw [decide_eq_true rfl]; rfl
        refine ⟨_, _, kv, rfl, hm4, kd4, by rw [ec, c], ?_, by omega, o4⟩
        rw [ek]
        show knows (putK kv (.inr a.nm) (ctV a)) _ = _
        rw [pk]
      · rw [e] at hv
        obtain rfl := Option.some.inj hv
        have ne : ¬ V.int ((n : Nat) : Int) = ctV a := fun z => en (by unfold ctV at z; have := V.int.inj z; omega)
        refine ⟨rfl, true, ?_, iteT ?_⟩
        · show V.bl (!decide (V.int ((n : Nat) : Int) = ctV a)) = V.bl true
          rw [decide_eq_false ne]; rfl
        refine ⟨_, rfl, pa, _, 0, .str a.nm, rfl, rfl, .inl (.inl hpa4), at_first _ _, by simp, fun x hx => ?_⟩
        refine ⟨x, CC, .str a.nm, rfl, EK.oex, EK.wh, upd_same, fun dd H' hd ne e => ?_⟩
        have hd4 : H4 dd = none := by rw [upd_ne ne] at hd; exact hd
        have noH : ∀ b, H4 b = none → H b = none := fun b z => by
          cases q : H b with
          | none => rfl
          | some u => rw [sH4 _ _ q] at z; cases z
        subst e
        refine ⟨rfl, dd, [("what", .str a.nm)], upd_same, by rw [upd_ne ne]; exact upd_same, hd4, qE a.nm (by rw [ec, c]) dd [("what", .str a.nm)] _ (noH _ hd4) upd_same (by simp) fun b o z => ?_⟩
        have nb : b ≠ x := ne_of_none (sH4 _ _ z) hx
        have nd : b ≠ dd := ne_of_none (sH4 _ _ z) hd4
        rw [upd_ne nd, del_ne nb, upd_ne nb, upd_ne nd, upd_ne nb]
        exact sH4 _ _ z
      · rw [e] at hv; cases hv
    · refine ⟨_, rfl, ?_⟩
      rcases clash_step (a := a) (r := as.drop (i + 1)) kd4 with ⟨n, e, _⟩ | ⟨_, c, kd5⟩
      · rw [e] at hv; cases hv
      refine ⟨rfl, false, ?_, iteF ?_⟩
      · show V.bl (!decide (ctV a = ctV a)) = V.bl false
        rw [decide_eq_true rfl]; rfl
      have pl := putK_le kv (.inr a.nm) (ctV a)
      refine ⟨_, _, putK kv (.inr a.nm) (ctV a), rfl, upd_same, kd5, by rw [ec, c], ek, by omega, fun b o z nb => ?_⟩
      rw [upd_ne nb]
      exact o4 _ _ z nb
  · rintro σ H4 ⟨x5, x6, kv, rfl, hm4, kd4, ec, ek, kvl, o4⟩
    rw [vl, List.drop_length] at ec ek
    refine ⟨_, rfl, qN ec m H4 hm ?_ (fun b o z => o4 _ _ (s13 _ _ z) (old _ _ z))⟩
    rw [ek]
    exact hm4
end
end Rp

set_option maxHeartbeats 8000000
/-! What a Definitions object says of itself. -/
namespace Rp
open PySem PySem.Spec PyProof.Rows L2 TL StX
def RusAt (H : Hp) : List V → List Ru → Prop
  | [], [] => True
  | v :: us, r :: rs => RuAt H v r ∧ RusAt H us rs
  | _, _ => False
theorem RusAt.len {H : Hp} : ∀ {us : List V} {rs : List Ru}, RusAt H us rs → us.length = rs.length
  | [], [], _ => rfl
  | _ :: _, _ :: _, h => congrArg (· + 1) (RusAt.len h.2)
theorem RusAt.same {H H' : Hp} (s : Same H H') : ∀ {us : List V} {rs : List Ru}, RusAt H us rs → RusAt H' us rs
  | [], [], _ => trivial
  | _ :: _, _ :: _, h => ⟨h.1.same s, RusAt.same s h.2⟩
theorem RusAt.get {H : Hp} : ∀ {us : List V} {rs : List Ru} {i : Nat} {v : V}, RusAt H us rs → us[i]? = some v → ∃ r, rs[i]? = some r ∧ RuAt H v r
  | v :: us, r :: rs, 0, x, h, e => ⟨r, rfl, by have : v = x := by simpa using e
                                                subst this; exact h.1⟩
  | v :: us, r :: rs, i + 1, x, h, e => by simpa using RusAt.get h.2 (by simpa using e)
theorem RusAt.snoc {H : Hp} {v : V} {r : Ru} (hv : RuAt H v r) : ∀ {us : List V} {rs : List Ru}, RusAt H us rs → RusAt H (us ++ [v]) (rs ++ [r])
  | [], [], _ => ⟨hv, trivial⟩
  | _ :: _, _ :: _, h => ⟨h.1, RusAt.snoc hv h.2⟩
/-- the rules whose head has the word -/
def picked (x : Str) (us : List V) (rs : List Ru) : List V := (us.zip rs).filterMap fun q => if q.2.hd.nm = x then some q.1 else none
theorem picked_more {x : Str} {us : List V} {rs : List Ru} {i : Nat} {v : V} {r : Ru} (hu : us[i]? = some v) (hr : rs[i]? = some r) : picked x (us.take (i + 1)) (rs.take (i + 1)) = picked x (us.take i) (rs.take i) ++ (if r.hd.nm = x then [v] else []) := by
  have e1 : us.take (i + 1) = us.take i ++ [v] := by rw [List.take_add_one, hu]; rfl
  have e2 : rs.take (i + 1) = rs.take i ++ [r] := by rw [List.take_add_one, hr]; rfl
  have l1 := (List.getElem?_eq_some_iff.mp hu).1
  have l2 := (List.getElem?_eq_some_iff.mp hr).1
  unfold picked
  rw [e1, e2, List.zip_append (by rw [List.length_take, List.length_take]; omega), List.filterMap_append]
  congr 1
  by_cases h : r.hd.nm = x
  · simp [h]
  · simp [h]
theorem picked_le {x : Str} {us : List V} {rs : List Ru} : (picked x us rs).length ≤ us.length := by
  unfold picked
  have h1 := List.length_filterMap_le (fun q : V × Ru => if q.2.hd.nm = x then some q.1 else none) (us.zip rs)
  rw [List.length_zip] at h1
  omega
def spRulesM (C : Addr) : Sp := fun vs H Q _ => ∃ (p lt : Addr) (us : List V) (rs : List Ru) (kvs : KVs) (x : Str), vs = [.ref p, .str x] ∧ DfAt C H p lt us kvs ∧ RusAt H us rs ∧ us.length ≤ 900 ∧
  ∀ (q : Addr) (H' : Hp), H q = none → H' q = some (.lst (picked x us rs)) → Same H H' → Q (.ref q) H'
def spWordsM (C : Addr) : Sp := fun vs H Q _ => ∃ (p lt : Addr) (us : List V) (kvs : KVs) (ks : List Str), vs = [.ref p] ∧ DfAt C H p lt us kvs ∧ kvs.map (·.1) = ks.map Sum.inr ∧ ks.length < 64 ∧
  ∀ (ys : List Str) (q : Addr) (H' : Hp), ys.Perm ks → sortedS ys = true → H q = none → H' q = some (.lst (ys.map V.str)) → Same H H' → Q (.ref q) H'
def spTermsM (C : Addr) : Sp := fun vs H Q _ => ∃ (p lt : Addr) (us : List V) (kvs : KVs) (x : Str), vs = [.ref p, .str x] ∧ DfAt C H p lt us kvs ∧ Q ((valV kvs (.inr x)).getD .non) H
def spAllR (C : Addr) : Sp := fun vs H Q _ => ∃ (p lt : Addr) (us : List V) (kvs : KVs), vs = [.ref p] ∧ DfAt C H p lt us kvs ∧ us.length ≤ 900 ∧ ∀ (q : Addr) (H' : Hp), H q = none → H' q = some (.lst us) → Same H H' → Q (.ref q) H'
def ttRule (K : PySem.W.Frag) : TT := tTest (tOp rEq (tOp (rIxT K) (tOp (rIxT K) (tVar 2) (tC (.int 0))) (tC (.int 0))) (tVar 1))
section
variable {P : Program} {w : World} {K : PySem.W.Frag} {mg : Str → Option Value} {base : Heap}
theorem scRulesM : FnScope ["self", "word", "rule"] ["self", "word"] (defScope sRules) := ⟨rfl, rfl, rfl, by decide +kernel, rfl, by decide +kernel, by decide +kernel⟩
theorem ok_rulesm {f C : Addr} {fd : FuncData} (F : Fun K "rules" "Definitions.rules" sRules f fd) (D : DfK K C) : FnOk P w K mg base CX0 1 f fd ["self", "word"] (spRulesM C) := by
  refine F.ok scRulesM (fun vs H Q E h => ?_) (fun cdv A outer s H vs Q E hr h => ?_)
  · obtain ⟨p, lt, us, rs, kvs, x, rfl, _⟩ := h
    rfl
  obtain ⟨p, lt, us, rs, kvs, x, rfl, ⟨dx, dt, hp, hlt, hdt⟩, RS, ul, q⟩ := h
  refine ⟨_, pss_one (ps_ret (pe_lc (own := [("rule", 2)]) (g := gName 2) (tt := ttRule K) (te := tVar 2) rfl scRulesM.nd (pi_list (pe_fld (pv 0) rfl)) (blkOk_by (N := ["self", "word", "rule"]) (sc := defScope sRules) (by decide +kernel))
    (fun _ _ _ _ _ => pg_name (i := 2) scRulesM.nd rfl (Or.inl rfl)) (fun _ _ _ _ _ => pts_one (pt_cmpR op_eq (pe_ix ix_tup (pe_ix ix_tup (pv 2) pe_int (fun _ _ => rfl)) pe_int (fun _ _ => rfl)) (pv 1) (nomark _))) (fun _ _ _ _ _ => pv 2))), ?_⟩
  have big : (10000 : Nat) ≤ sizeLine := by decide
  have rl := RS.len
  refine ⟨_, rfl, p, C, dx, _, _, rfl, hp, D.cls, D.nT, dfF_told, lt, rfl, ⟨_, .inl (.inl hlt)⟩, fun R hR => ?_⟩
  have lR : lt ≠ R := ne_of_none hlt hR
  refine lc_list (K := K) (a := lt) (xs := us) (fun i H2 => H2 R = some (.lst (picked x (us.take i) (rs.take i))) ∧ Same H H2) ⟨by rw [upd_same]; rfl, same_new hR _⟩ (fun i H2 _ ⟨_, s⟩ => .inl (.inl (s _ _ hlt))) ?_ ?_
  · rintro i v H2 hi ⟨h2, s2⟩
    obtain ⟨r, hri, T⟩ := RS.get hi
    obtain ⟨p1, q1, vh, xs, rfl, hp1, ⟨pa, xa, rfl, hpa, TA⟩, hq1, hB⟩ := T.same s2
    refine ⟨rfl, ?_⟩
    unfold ttRule
    refine ⟨_, rfl, p1, _, 0, _, rfl, rfl, .inl (.inl hp1), rfl, pa, _, 0, .str r.hd.nm, rfl, rfl, .inl (.inl hpa), at_first _ _, _, rfl, rfl, decide (r.hd.nm = x), ?_, ?_⟩
    · exact congrArg V.bl (by by_cases h : r.hd.nm = x <;> simp [h])
    have il := (List.getElem?_eq_some_iff.mp hi).1
    have pm := picked_more (x := x) hi hri
    by_cases h : r.hd.nm = x
    · rw [decide_eq_true h]
      refine iteT ⟨_, rfl, _, h2, ?_, ?_, ?_⟩
      · have := picked_le (x := x) (us := us.take i) (rs := rs.take i)
        rw [List.length_take] at this
        omega
      · rw [upd_same, pm, if_pos h]
      · intro b o z
        rw [upd_ne (ne_of_none z hR)]
        exact s2 _ _ z
    · rw [decide_eq_false h]
      refine iteF ⟨?_, s2⟩
      rw [pm, if_neg h, List.append_nil]
      exact h2
  · rintro H2 ⟨h2, s2⟩
    rw [List.take_length, rl, List.take_length] at h2
    exact q R H2 hR h2 s2
theorem scWordsM : FnScope ["self"] ["self"] (defScope sWordsM) := ⟨rfl, rfl, rfl, by decide +kernel, rfl, by decide +kernel, by decide +kernel⟩
theorem ok_wordsm {f C : Addr} {fd : FuncData} (F : Fun K "words" "Definitions.words" sWordsM f fd) (D : DfK K C) (mSorted : mg "sorted" = none) : FnOk P w K mg base CX0 1 f fd ["self"] (spWordsM C) := by
  refine F.ok scWordsM (fun vs H Q E h => ?_) (fun cdv A outer s H vs Q E hr h => ?_)
  · obtain ⟨p, lt, us, kvs, ks, rfl, _⟩ := h
    rfl
  obtain ⟨p, lt, us, kvs, ks, rfl, ⟨dx, dt, hp, hlt, hdt⟩, ke, kl, q⟩ := h
  refine ⟨_, pss_one (ps_ret (pe_callB (call_sortedD rfl) (by rfl) mSorted (by decide +kernel) (pa_cons (pe_fld (pv 0) rfl) pa_nil))), ?_⟩
  exact ⟨_, rfl, p, C, dx, _, _, rfl, hp, D.cls, D.nM, dfF_terms, dt, kvs, ks, rfl, .inl hdt, ke, kl, fun ys g perm srt hg => q ys g _ perm srt hg upd_same (same_new hg _)⟩
theorem scTermsM : FnScope ["self", "word"] ["self", "word"] (defScope sTermsM) := ⟨rfl, rfl, rfl, by decide +kernel, rfl, by decide +kernel, by decide +kernel⟩
theorem ok_termsm {f C : Addr} {fd : FuncData} (F : Fun K "terms" "Definitions.terms" sTermsM f fd) (D : DfK K C) : FnOk P w K mg base CX0 1 f fd ["self", "word"] (spTermsM C) := by
  refine F.ok scTermsM (fun vs H Q E h => ?_) (fun cdv A outer s H vs Q E hr h => ?_)
  · obtain ⟨p, lt, us, kvs, x, rfl, _⟩ := h
    rfl
  obtain ⟨p, lt, us, kvs, x, rfl, ⟨dx, dt, hp, hlt, hdt⟩, q⟩ := h
  refine ⟨_, pss_one (ps_ret (pe_dget1 (hu_of hr) (pe_fld (pv 0) rfl) (pv 1) ⟨rfl, rfl, rfl, rfl⟩)), ?_⟩
  exact ⟨_, rfl, p, C, dx, _, _, rfl, hp, D.cls, D.nM, dfF_terms, dt, rfl, .inl ⟨kvs, .inl hdt⟩, _, rfl, _, DGet.k (k := Sum.inr x) hdt, q⟩
theorem scAllR : FnScope ["self"] ["self"] (defScope sAllR) := ⟨rfl, rfl, rfl, by decide +kernel, rfl, by decide +kernel, by decide +kernel⟩
theorem ok_allr {f C : Addr} {fd : FuncData} (F : Fun K "all_rules" "Definitions.all_rules" sAllR f fd) (D : DfK K C) (mList : mg "list" = none) : FnOk P w K mg base CX0 1 f fd ["self"] (spAllR C) := by
  refine F.ok scAllR (fun vs H Q E h => ?_) (fun cdv A outer s H vs Q E hr h => ?_)
  · obtain ⟨p, lt, us, kvs, rfl, _⟩ := h
    rfl
  obtain ⟨p, lt, us, kvs, rfl, ⟨dx, dt, hp, hlt, hdt⟩, ul, q⟩ := h
  refine ⟨_, pss_one (ps_ret (pe_callTy call_list_of (by rfl) mList (by decide +kernel) (pa_cons (pe_fld (pv 0) rfl) pa_nil))), ?_⟩
  exact ⟨_, rfl, p, C, dx, _, _, rfl, hp, D.cls, D.nT, dfF_told, lt, us, rfl, .inl (.inl (.inl hlt)), fun g hg => q g _ hg upd_same (same_new hg _)⟩
end
end Rp

set_option maxHeartbeats 8000000
/-! Telling a rule; making a Definitions object. -/
namespace Rp
open PySem PySem.Spec PyProof.Rows L2 TL StX
theorem dfF_no {lt dt : Addr} {m : Str} (h1 : (m == ("_told" : Str)) = false) (h2 : (m == ("_terms" : Str)) = false) : (dfF lt dt).lookup m = none := by
  unfold dfF
  rw [List.lookup_cons, h1, List.lookup_cons, h2]
  rfl
theorem dfF_put {lt dt q : Addr} : putF "_terms" (.ref q) (dfF lt dt) = dfF lt q := by
  have e1 : ¬ (("_told" : Str) = "_terms") := by decide +kernel
  show (if ("_told" : Str) = "_terms" then _ else (("_told" : Str), V.ref lt) :: (if ("_terms" : Str) = "_terms" then [(("_terms" : Str), V.ref q)] else _)) = _
  rw [if_neg e1, if_pos rfl]
  rfl
/-- but two objects, all stays -/
def But2 (p l : Addr) (H H' : Hp) : Prop := ∀ b o, H b = some o → b ≠ p → b ≠ l → H' b = some o
def spTell (C CC : Addr) : Sp := fun vs H Q E => ∃ (p lt : Addr) (us : List V) (rs : List Ru) (kvs : KVs) (v : V) (r : Ru), vs = [.ref p, v] ∧ DfAt C H p lt us kvs ∧ RusAt H us rs ∧ us.length ≤ 800 ∧ Kd kvs ∧ kvs.length ≤ 900 ∧ r.bd.length ≤ 9 ∧ RuAt H v r ∧
  (clash kvs (r.hd :: r.bd) = none → ∀ (H' : Hp), DfAt C H' p lt (us ++ [v]) (knows kvs (r.hd :: r.bd)) → But2 p lt H H' → Q (.int ((picked r.hd.nm us rs).length : Nat)) H') ∧
  (∀ x, clash kvs (r.hd :: r.bd) = some x → ∀ (d : Addr) (fs : List (Str × V)) (H' : Hp), H d = none → H' d = some (.xd fs) → fs.lookup ("what" : Str) = some (.str x) → Same H H' → E (.ref CC) (some d) H')
section
variable {P : Program} {w : World} {K : PySem.W.Frag} {mg : Str → Option Value} {base : Heap}
theorem scTell : FnScope ["self", "rule", "terms", "place"] ["self", "rule"] (defScope sTell) := ⟨rfl, rfl, rfl, by decide +kernel, rfl, by decide +kernel, by decide +kernel⟩
theorem ok_tell {f C CC fW fR : Addr} {fd dW dR : FuncData} (F : Fun K "tell" "Definitions.tell" sTell f fd) (D : DfK K C)
    (GW : FnOk P w K mg base (L2.CX P w) 3 fW dW ["self", "rule"] (spTermsW C CC)) (mW : Meth K C "_terms_with" fW) (bW : Binds K dW ["self", "rule"] [])
    (GR : FnOk P w K mg base CX0 1 fR dR ["self", "word"] (spRulesM C)) (mR : Meth K C "rules" fR) (bR : Binds K dR ["self", "word"] []) (mLen : mg "len" = none) : FnOk P w K mg base (L2.CX P w) 4 f fd ["self", "rule"] (spTell C CC) := by
  refine F.okX scTell (fun vs H Q E h => ?_) (fun cdv A outer s H vs Q E hr h => ?_)
  · obtain ⟨p, lt, us, rs, kvs, v, r, rfl, _⟩ := h
    rfl
  obtain ⟨p, lt, us, rs, kvs, v, r, rfl, ⟨dx, dt, hp, hlt, hdt⟩, RS, ul, kd, kl, rl, T, qN, qE⟩ := h
  have hr1 : Room 1 _ := hr.mono (by decide)
  refine ⟨_, pss_cons (ps_set (i := 2) scTell.nd rfl (Or.inl rfl) (pe_meth (E := E) (pv 0) D.cls mW GW hr bW .nil (passes_call (W := fun cls d _ H => E cls d H) (takes_of rfl rfl rfl rfl) fun _ _ _ _ h => h) (pa_cons (pv 1) pa_nil)))
    (pss_cons (ps_set (i := 3) scTell.nd rfl (Or.inl rfl) (pe_callB call_len_seq (by rfl) mLen PySem.boot_len (pa_cons (pe_meth (pv 0) D.cls mR GR hr1 bR .nil pass0 (pa_cons (pe_ix ix_tup (pe_ix ix_tup (pv 1) pe_int (fun _ _ => rfl)) pe_int (fun _ _ => rfl)) pa_nil)) pa_nil)))
    (pss_cons (ps_fld (pv 0) (pv 2) rfl)
    (pss_cons (ps_expr (pe_bm PySem.F.plainAttrs_list PySem.F.slot_list_append PySem.F.type_list_append mt_append (pe_fld (pv 0) rfl) (pa_cons (pv 1) pa_nil)))
    (pss_one (ps_ret (pv 3)))))), ?_⟩
  have big : (10000 : Nat) ≤ sizeLine := by decide
  refine ⟨_, rfl, p, dx, _, rfl, hp, dfF_no (by decide +kernel) (by decide +kernel), _, rfl, p, lt, us, kvs, v, r, rfl, ⟨dx, dt, hp, hlt, hdt⟩, kd, kl, rl, T, fun cn q H2 hq h2 s2 => ?_, qE⟩
  obtain ⟨p1, q1, vh, xs, ev, hp1, ⟨pa, xa, eh, hpa, TA⟩, hq1, hB⟩ := T.same s2
  subst ev eh
  refine ⟨_, rfl, p, dx, _, rfl, s2 _ _ hp, dfF_no (by decide +kernel) (by decide +kernel), _, rfl, p1, _, 0, _, rfl, rfl, .inl (.inl hp1), rfl, pa, _, 0, .str r.hd.nm, rfl, rfl, .inl (.inl hpa), at_first _ _, ?_⟩
  refine ⟨p, lt, us, rs, kvs, r.hd.nm, rfl, ⟨dx, dt, s2 _ _ hp, s2 _ _ hlt, s2 _ _ hdt⟩, RS.same s2, by omega, fun g H3 hg h3 s3 => ?_⟩
  refine ⟨g, _, rfl, .inl (.inl (.inl h3)), ?_⟩
  have s23 := s2.trans s3
  refine ⟨_, rfl, _, rfl, p, C, dx, _, rfl, s23 _ _ hp, D.cls, D.nM, (by show 2 < 1000; decide), ?_⟩
  rw [dfF_put]
  have pl : p ≠ lt := ne_of hp hlt (by intro z; cases z)
  have plt := (upd_ne pl.symm : (upd H3 p (.ins C dx (dfF lt q))) lt = H3 lt)
  refine ⟨_, rfl, p, C, dx, _, _, rfl, upd_same, D.cls, D.nT, dfF_told, .inl ⟨rfl, _, .inl (.inl (by rw [plt]; exact s23 _ _ hlt))⟩, _, rfl, lt, _, _, rfl, rfl, (by rw [plt]; exact s23 _ _ hlt), by omega, ?_⟩
  have qp : q ≠ p := (ne_of_none hp hq).symm
  have ql : q ≠ lt := (ne_of_none hlt hq).symm
  refine ⟨_, rfl, qN cn _ ⟨dx, q, by rw [upd_ne pl]; exact upd_same, upd_same, by rw [upd_ne ql, upd_ne qp]; exact s3 _ _ h2⟩ fun b o z n1 n2 => ?_⟩
  rw [upd_ne n2, upd_ne n1]
  exact s23 _ _ z
end
end Rp

/-! Dicts whose keys are tuples: a comprehension that makes one, its items walked; a walk over a list or a tuple. -/
namespace Rp
open PySem PySem.Spec PyProof.Rows L2
section
variable {X : Cx}
/-- what {(..): v for .. if ..} asks where all keys are tuples -/
def tDcT (wi : TI) (g : TG) (tt : TT) (tk tv : TE) (vs : List Nat) : TE := fun σ H Q => wi σ H fun J H1 => ∀ D, H1 D = none →
  ∃ W : Nat → Nat → Hp → Prop, (∃ m, W 0 m (upd H1 D (.dT []))) ∧ ∀ i m H, W i m H → (J.stop i H ∧ Q (.ref D) H) ∨
    (J.go i H ∧ ∃ Nx : Hp → Prop, (∀ H', Nx H' → ∃ m', m' < m ∧ W (i + 1) m' H') ∧ ∀ x H', J.yld i H x H' → g x (wipe σ vs) H' fun σ2 H2 => wipe σ2 vs = wipe σ vs ∧
      tt σ2 H2 fun b H3 => if b = true then tk σ2 H3 fun y H4 => tv σ2 H4 fun z H5 => ∃ (t : Addr) (k : List L2.Key) (kvs : List (List L2.Key × V)), y = .ref t ∧ H5 t = some (.tup (k.map kV)) ∧ H5 D = some (.dT kvs) ∧ kvs.length < sizeLine ∧
        Nx (upd H5 D (.dT (putK kvs k z))) else Nx H3)
theorem putT {pins : List (Addr × Obj)} {σ : L2.St} {H : Hp} {s : Shared} {E : Value → Shared → Prop} {D t : Addr} {k : List L2.Key} {kvs : List (List L2.Key × V)} {z : V} {u r : Value} {Q : Unit → Shared → Prop}
    (I : Inv X pins σ H s) (hu : X.A.units + 1 < cLine) (ht : H t = some (.tup (k.map kV))) (hD : H D = some (.dT kvs)) (few : kvs.length < sizeLine) (ru : RelV (.ref t) u) (rr : RelV z r)
    (go : ∀ s', Inv X pins σ (upd H D (.dT (putK kvs k z))) s' → Q () s') : wpAny (model X.prog X.w) X.A (dictSet D u r) Q E s := by
  obtain rfl : u = Value.ref t := ru
  obtain ⟨z1, lo, xs, rel, dd⟩ := dt_of I.hok hD
  have room : xs.length ≤ sizeLine := by rw [← Paired.length rel]; exact z1
  refine wpAny_dictSet_heap (hsz := room) (show X.A.units < cLine by omega) (key_of I.hok ht) dd fun g now only => go _ ?_
  obtain ⟨o, es, ep, e1, e2, e3, e4, _, e6⟩ := now
  refine d_write I (by rw [hD]; trivial) only ⟨o, e1⟩ ⟨?_, lo, _, KT.keeps (rel.put k ht rr) fun c ys ec => ?_, o, es, ep, e1, e2, e3, e4, e6⟩
  · have := length_putK kvs k z; omega
  · rw [upd_ne (ne_of ec hD (by intro z; cases z))]
    exact ec
theorem dcT_core {pins : List (Addr × Obj)} {s : Shared} {σ : L2.St} {H : Hp} {Q : VK} {kx vx tg iter : Expr} {ifs : List Expr} {scope : Scope} {own : List (PySem.Str × Nat)} {pos pos' : Pos} {wi : TI} {g : TG} {tt : TT} {tk tv : TE} {use : Option (Value → Sem Unit)} {Qf : Value → Shared → Prop}
    (hc : X.calm = true) (hu : X.A.units + 1 < cLine) (hN : X.N.Nodup) (I : Inv X pins σ H s) (hi : PI X tg iter wi) (ok : BlkOk X.N X.env.scope scope own)
    (hg : ∀ (s : Shared) (H : Hp) (C : Addr) (cl : List (PySem.Str × Addr)) (fp : List Addr), PG (X.blk s H scope (compEnvC scope cl C X.env) fp) tg g)
    (ht : ∀ (s : Shared) (H : Hp) (C : Addr) (cl : List (PySem.Str × Addr)) (fp : List Addr), PTs (X.blk s H scope (compEnvC scope cl C X.env) fp) ifs tt)
    (hk : ∀ (s : Shared) (H : Hp) (C : Addr) (cl : List (PySem.Str × Addr)) (fp : List Addr), PE (X.blk s H scope (compEnvC scope cl C X.env) fp) kx tk)
    (hv : ∀ (s : Shared) (H : Hp) (C : Addr) (cl : List (PySem.Str × Addr)) (fp : List Addr), PE (X.blk s H scope (compEnvC scope cl C X.env) fp) vx tv)
    (hs : ∀ x, foldedSetIterable iter X.env x = pure x) (h : tDcT wi g tt tk tv (own.map (·.2)) σ H Q)
    (last : ∀ D C s' m H', Inv X pins σ H' s' → Q (.ref D) H' → s'.heap.Ns C m → FpOk X pins H' C → compPost (model X.prog X.w) X.A X.xe use Qf (.ref D) C (.ok .next) s') :
    wpAny (model X.prog X.w) X.A (comprehension (.DictComp kx vx [⟨tg, iter, ifs, 0⟩] scope pos) scope X.env pos' newDict false (eval iter X.env) use) Qf X.xe s := by
  have caught : ∀ y ∈ scope.names, y.2 = .free → ∃ c, X.env.cells.lookup y.1 = some c := fun y hy e =>
    (ok.free y hy e).elim (fun k => I.ok.has _ (.inl k)) fun k => I.ok.has _ (.inr k)
  refine wpAny_comprehension_free (use := use) rfl hs (closure_ok caught) ok.kind (fun y hy e => (ok.uniq y hy).trans (by rw [e])) (thn (hi.run pins s σ H _ I h) fun xv s1 hx => thn hx fun itv s2 h2 => ?_)
  obtain ⟨it, fp, tn, J, H2, rfl, I2, T, st2, f2, q⟩ := h2
  refine wpAny_newObj_type (newEnv_comp ?_)
  -- the new dict's place
  obtain ⟨D, hD⟩ : ∃ D, s2.heap.objs.size = D := ⟨_, rfl⟩
  rw [hD]
  obtain ⟨W, ⟨m0, w0⟩, turn⟩ := q D (I2.hok.fresh (Nat.le_of_eq hD))
  obtain ⟨s3, hs3⟩ : ∃ s3 : Shared, { s2 with heap := s2.heap.push { cls := .type "dict", data := .dict #[] } } = s3 := ⟨_, rfl⟩
  have h3 : s3.heap = s2.heap.push { cls := .type "dict", data := .dict #[] } := by rw [← hs3]
  have I3 : Inv X pins σ (upd H2 D (.dT [])) s3 := by
    have z := I2.laid (a := D) (o := .dT []) (t' := s2.toks) (h' := s2.heap.push { cls := .type "dict", data := .dict #[] }) (fun b o e => Heap.get?_push_of_some _ e) (Nat.le_of_eq hD) (by rw [← hD]; exact dt_empty s2.heap I2.big)
    exact hs3 ▸ z
  have low : ∀ b ∈ fp, b < s2.heap.objs.size := fun b hb => let ⟨o, e, _⟩ := T.obj _ _ st2 b hb; Heap.lt_size e
  have f3 : ∀ b ∈ fp, FpOk X pins (upd H2 D (.dT [])) b ∧ b < s3.heap.objs.size := fun b hb =>
    ⟨⟨(upd_ne (by rw [← hD]; exact Nat.ne_of_lt (low b hb))).trans (f2 b hb).1, (f2 b hb).2⟩, by rw [h3, Heap.size_push]; exact Nat.lt_succ_of_lt (low b hb)⟩
  have st3 : tn 0 s3.heap := T.keep _ _ _ st2 fun b _ o e => h3 ▸ Heap.get?_push_of_some _ e
  have I4 := block_start I3 ok hN f3
  obtain ⟨H3, hH3⟩ : ∃ H3, upd H2 D (.dT []) = H3 := ⟨_, rfl⟩
  rw [hH3] at I3 f3 I4 w0
  obtain ⟨C, hC⟩ : ∃ C, s3.heap.objs.size = C := ⟨_, rfl⟩
  rw [hC] at I4
  have pg := hg s3 H3 C (cellsFrom (C + 1) scope.names (cloFrom X.env.cells scope.names [])) fp
  have pt := ht s3 H3 C (cellsFrom (C + 1) scope.names (cloFrom X.env.cells scope.names [])) fp
  have pk := hk s3 H3 C (cellsFrom (C + 1) scope.names (cloFrom X.env.cells scope.names [])) fp
  have pw := hv s3 H3 C (cellsFrom (C + 1) scope.names (cloFrom X.env.cells scope.names [])) fp
  subst hs3
  have hC' : (s2.heap.push { cls := .type "dict", data := .dict #[] }).objs.size = C := hC
  show codeAny _ _ (.compStart (.DictComp kx vx [⟨tg, iter, ifs, 0⟩] scope pos) 0 (.ref it) (.ref D) (compEnvC scope (cellsFrom ((s2.heap.push { cls := .type "dict", data := .dict #[] }).objs.size + 1) scope.names (cloFrom X.env.cells scope.names [])) (s2.heap.push { cls := .type "dict", data := .dict #[] }).objs.size X.env))
    (compPost (model X.prog X.w) X.A X.xe use Qf (.ref D) (s2.heap.push { cls := .type "dict", data := .dict #[] }).objs.size) { s2 with heap := pushCells ((s2.heap.push { cls := .type "dict", data := .dict #[] }).push { cls := .type "dict", data := .dict #[] }) scope.names }
  rw [hC']
  obtain ⟨ce, hce⟩ : ∃ ce, compEnvC scope (cellsFrom (C + 1) scope.names (cloFrom X.env.cells scope.names [])) C X.env = ce := ⟨_, rfl⟩
  rw [hce] at I4 pg pt pk pw ⊢
  have cL : ce.locals = C := by subst hce; rfl
  obtain ⟨s4, hs4⟩ : ∃ s4 : Shared, { s2 with heap := pushCells ((s2.heap.push { cls := .type "dict", data := .dict #[] }).push { cls := .type "dict", data := .dict #[] }) scope.names } = s4 := ⟨_, rfl⟩
  have I4 : Inv (X.blk _ H3 scope ce fp) [] (wipe σ (own.map (·.2))) H3 s4 := hs4 ▸ I4
  rw [hs4]
  have st4 : tn 0 s4.heap := T.keep _ _ _ st3 fun b _ o e => by rw [← hs4]; exact pushCells_keeps _ _ _ _ (Heap.get?_push_of_some _ e)
  obtain ⟨Y, hY⟩ : ∃ Y, X.blk { s2 with heap := s2.heap.push { cls := .type "dict", data := .dict #[] } } H3 scope ce fp = Y := ⟨_, rfl⟩
  have rest : ∀ {σ' : L2.St} {H' : Hp} {s' : Shared}, Inv Y [] σ' H' s' → (∀ b ∈ fp, H' b = none) → ∀ b ∈ fp, FpOk Y [] H' b := by
    subst hY
    intro σ' H' s' I' hn b hb
    exact ⟨hn b hb, (I'.ok.exf b hb).1, I'.ok.exfs b hb, .inl hb, fun x c e => (I'.ok.exf b hb).2 x c e, fun p hp => absurd (show p ∈ ([] : List (Addr × Obj)) ++ [] from hp) (by simp)⟩
  have round : codeAny (model X.prog X.w) X.A (.compLoop (.DictComp kx vx [⟨tg, iter, ifs, 0⟩] scope pos) 0 (.ref it) (.ref D) ce) (compPost (model X.prog X.w) X.A X.xe use Qf (.ref D) C) s4 := by
    refine compLoop_anyD (fun n s' => ∃ i H', Inv Y [] (wipe σ (own.map (·.2))) H' s' ∧ tn i s'.heap ∧ (∀ b ∈ fp, H' b = none) ∧ W i n H') ?_ m0 ⟨0, H3, hY ▸ I4, st4, fun b hb => (f3 b hb).1.1, w0⟩
    rintro n s5 ⟨i, H5, I5, st5, n5, w5⟩
    rcases turn i n H5 w5 with ⟨stop, qq⟩ | ⟨go, Nx, hNx, step⟩
    · subst hY
      refine thnF (T.done (X.blk _ H3 scope ce fp) rfl rfl rfl hc i [] s5 _ H5 (fun _ _ => False) I5 (rest I5 n5) st5 stop) fun r s6 ⟨hr, I6⟩ => ?_
      subst hr
      have I7 : Inv X pins σ H5 s6 := I3.call' (ch := fp) I6.os I6.base I6.hok I6.bare fun b hb => ⟨(f3 b hb).1.2.2.2.1, (f3 b hb).1.2.1, (f3 b hb).1.2.2.2.2.1, (f3 b hb).1.2.2.2.2.2⟩
      have nC : H5 C = none := cL ▸ (show H5 ce.locals = none from I6.free)
      obtain ⟨m, hn, _⟩ := I6.loc
      have hn : s6.heap.Ns C m := cL ▸ (show s6.heap.Ns ce.locals m from hn)
      exact last D C s6 m H5 I7 qq hn (I3.fpOk (Nat.le_of_eq hC) nC)
    · have ti := T.item Y (by subst hY; rfl) (by subst hY; rfl) (by subst hY; rfl) (by subst hY; exact hc) i [] s5 _ H5 (fun _ _ => False) I5 (rest I5 n5) st5 go
      subst hY
      refine thnF ti fun r s6 ⟨u, hr, h6⟩ => ?_
      subst hr
      refine thnF h6 fun _ s7 ⟨x, H7, I7, r7, y7, st7, n7⟩ => ?_
      refine thnF (pg.run _ s7 _ H7 x u _ (I7.pinned (rest I7 n7) (T.obj _ _ st7)) r7 (step x H7 y7)) fun _ s8 ⟨σ8, H8, I8, hw8, q8⟩ => ?_
      refine thnF (pt.run _ s8 σ8 H8 _ I8 q8) fun b s9 ⟨H9, I9, q9⟩ => ?_
      have turned : ∀ {s' : Shared} {H' : Hp}, Inv (X.blk { s2 with heap := s2.heap.push { cls := .type "dict", data := .dict #[] } } H3 scope ce fp) ([] ++ pinsAt fp s7.heap) σ8 H' s' → Nx H' → ∃ m, m < n ∧ ∃ i H', Inv (X.blk { s2 with heap := s2.heap.push { cls := .type "dict", data := .dict #[] } } H3 scope ce fp) [] (wipe σ (own.map (·.2))) H' s' ∧ tn i s'.heap ∧ (∀ b ∈ fp, H' b = none) ∧ W i m H' := by
        intro s' H' I' nx
        obtain ⟨m', hm, w'⟩ := hNx H' nx
        have pin : ∀ b ∈ fp, ∀ o, s7.heap.get? b = some o → s'.heap.get? b = some o ∧ H' b = none := fun b hb o e =>
          let z := I'.pin (b, o) (List.mem_append_right _ (List.mem_append_right _ (mem_pinsAt hb e))); ⟨z.1, z.2.1⟩
        refine ⟨m', hm, i + 1, H', (I'.unpinned (pins := [])).weak (by rw [← hw8, wipe_length]) (fun j v e => (wipe_some (by rw [hw8]; exact e)).1), T.keep _ _ _ st7 fun b hb o e => (pin b hb o e).1, fun b hb => ?_, w'⟩
        obtain ⟨o, e, _⟩ := T.obj _ _ st7 b hb
        exact (pin b hb o e).2
      cases b with
      | false => simp only [Bool.false_eq_true, if_false] at q9 ⊢; exact turned I9 q9
      | true =>
        simp only [if_true] at q9 ⊢
        refine thnF (pk.run _ s9 σ8 H9 _ I9 q9) fun z s10 ⟨yk, H10, I10, r10, q10⟩ => ?_
        refine thnF (pw.run _ s10 σ8 H10 _ I10 q10) fun z2 s11 ⟨yv, H11, I11, r11, t, k, kvs, ey, k1, k2, k3, nx⟩ => ?_
        subst ey
        exact putT (X := X.blk _ H3 scope ce fp) I11 hu k1 k2 k3 r10 r11 fun s12 I12 => turned I12 nx
  exact codeAny_compStart_dict round (T.self X.A 0 _ _ _ st4 round)
/-- as a value -/
theorem pe_dcT {kx vx tg iter : Expr} {ifs : List Expr} {scope : Scope} {own : List (PySem.Str × Nat)} {wi : TI} {g : TG} {tt : TT} {tk tv : TE} {pos : Pos} (hc : X.calm = true) (hu : X.A.units + 1 < cLine) (hN : X.N.Nodup) (hi : PI X tg iter wi) (ok : BlkOk X.N X.env.scope scope own)
    (hg : ∀ (s : Shared) (H : Hp) (C : Addr) (cl : List (PySem.Str × Addr)) (fp : List Addr), PG (X.blk s H scope (compEnvC scope cl C X.env) fp) tg g)
    (ht : ∀ (s : Shared) (H : Hp) (C : Addr) (cl : List (PySem.Str × Addr)) (fp : List Addr), PTs (X.blk s H scope (compEnvC scope cl C X.env) fp) ifs tt)
    (hk : ∀ (s : Shared) (H : Hp) (C : Addr) (cl : List (PySem.Str × Addr)) (fp : List Addr), PE (X.blk s H scope (compEnvC scope cl C X.env) fp) kx tk)
    (hv : ∀ (s : Shared) (H : Hp) (C : Addr) (cl : List (PySem.Str × Addr)) (fp : List Addr), PE (X.blk s H scope (compEnvC scope cl C X.env) fp) vx tv)
    (hs : ∀ x, foldedSetIterable iter X.env x = pure x := by intro _; rfl) :
    PE X (.DictComp kx vx [⟨tg, iter, ifs, 0⟩] scope pos) (tDcT wi g tt tk tv (own.map (·.2))) := by
  refine ⟨fun pins s σ H Q I h => ?_⟩
  rw [arm_eval_DictComp]
  exact dcT_core hc hu hN I hi ok hg ht hk hv hs h fun D C s' m H' I' q hn ⟨g0, g1, g2, g3, g4, g5⟩ =>
    ⟨m, hn, fun h'' sb => ⟨.ref D, H', I'.turned (t' := s'.toks) (fun b o hb e => (sb.2 b hb).trans e) g0 g1 g3 g4 g5, rfl, q⟩⟩
/-- given to a name -/
theorem ps_setDcT {kx vx tg iter : Expr} {ifs : List Expr} {scope : Scope} {own : List (PySem.Str × Nat)} {wi : TI} {g : TG} {tt : TT} {tk tv : TE} {i : Nat} {y : PySem.Str} {py pos spos : Pos} (hc : X.calm = true) (hu : X.A.units + 1 < cLine) (hN : X.N.Nodup) (hy : X.N[i]? = some y) (mine : X.env.scope.names.lookup y = some .local)
    (sw : swapsWith (.DictComp kx vx [⟨tg, iter, ifs, 0⟩] scope pos) (some (.Name y py)) spos.line X.env = pure true) (hi : PI X tg iter wi) (ok : BlkOk X.N X.env.scope scope own)
    (hg : ∀ (s : Shared) (H : Hp) (C : Addr) (cl : List (PySem.Str × Addr)) (fp : List Addr), PG (X.blk s H scope (compEnvC scope cl C X.env) fp) tg g)
    (ht : ∀ (s : Shared) (H : Hp) (C : Addr) (cl : List (PySem.Str × Addr)) (fp : List Addr), PTs (X.blk s H scope (compEnvC scope cl C X.env) fp) ifs tt)
    (hk : ∀ (s : Shared) (H : Hp) (C : Addr) (cl : List (PySem.Str × Addr)) (fp : List Addr), PE (X.blk s H scope (compEnvC scope cl C X.env) fp) kx tk)
    (hv : ∀ (s : Shared) (H : Hp) (C : Addr) (cl : List (PySem.Str × Addr)) (fp : List Addr), PE (X.blk s H scope (compEnvC scope cl C X.env) fp) vx tv)
    (hs : ∀ x, foldedSetIterable iter X.env x = pure x := by intro _; rfl) :
    PS X (.Assign [.Name y py] (.DictComp kx vx [⟨tg, iter, ifs, 0⟩] scope pos) spos) (tAsg (tDcT wi g tt tk tv (own.map (·.2))) (gName i)) := by
  refine ⟨fun pins s σ H D I h => ?_⟩
  have h : tDcT wi g tt tk tv (own.map (·.2)) σ H (fun x H1 => gName i x σ H1 D.nx) := h
  rw [exec_Assign_Name_used _ _ _ _ sw]
  refine wpAny_bind (wpAny_standAt (wpAny_bind ?_))
  show wpAny _ X.A (do let _ ← comprehension (.DictComp kx vx [⟨tg, iter, ifs, 0⟩] scope pos) scope X.env (firstIterPos [⟨tg, iter, ifs, 0⟩] pos) newDict false (eval iter X.env) (some (assign (.Name y py) X.env))) _ _ s
  refine wpAny_bind (thn (dcT_core (Qf := fun _ s' => SP X pins D .next s') hc hu hN I hi ok hg ht hk hv hs h fun L C s' m H' I' q hn f => ?_) fun _ s' hq => wpAny_pure (wpAny_pure hq))
  show wpAny _ _ (assign (.Name y py) X.env (.ref L)) _ _ _
  refine wpAny_assign_Name (store_ok2 (v := V.ref L) I' hN hy (.inl mine) rfl (fun s2 I2 ⟨a, sb, ha⟩ => ?_) (.inr mine))
  obtain ⟨f0, f1, f2, f3, f4, f5⟩ := f
  have apart : C ≠ a := ha.elim (fun z => by rw [z]; exact f1) fun z e => f4 y a z e.symm
  exact ⟨m, hn.sameBut sb apart, fun g3 sb3 => ⟨_, H', I2.turned (t' := s2.toks) (fun b o hb e => (sb3.2 b hb).trans e) f0 f1 f3 f4 f5, q⟩⟩
theorem swD_true {kx vx : Expr} {gs : List Comprehension} {scope : Scope} {pos py : Pos} {y : PySem.Str} {l : Nat} {env : Env} (hk : env.scope.kind = .function) (hy : env.scope.names.lookup y = some .local) (hl : (py.line == pos.line) = true)
    (ha : (scope.names.any fun (n, k) => n == y && (k == .local || k == .cell)) = false) : swapsWith (.DictComp kx vx gs scope pos) (some (.Name y py)) l env = pure true := by
  have ky : env.kindOf y = some .local := hy
  have hb : env.blockKind = .function := by unfold Env.blockKind; rw [hk]; rfl
  unfold swapsWith
  simp only [hb, ky, ha, Expr.pos, hl]
  rfl
/-- a walk in whose turns the dict grows -/
theorem dcT_it {J : It} {n : Nat} {G : Hp → Prop} {Y : Nat → Hp → V → Hp → Prop} (wk : Walk J n G Y) {g : TG} {tt : TT} {tk tv : TE} {vs : List Nat} {σ : L2.St} {H1 : Hp} {D : Addr} {Qd : Hp → Prop}
    (Pv : Nat → Hp → Prop) (h0 : Pv 0 (upd H1 D (.dT []))) (hG : ∀ i H, i ≤ n → Pv i H → G H)
    (hs : ∀ i x H H', i < n → Pv i H → Y i H x H' → g x (wipe σ vs) H' fun σ2 H2 => wipe σ2 vs = wipe σ vs ∧ tt σ2 H2 fun b H3 =>
      if b = true then tk σ2 H3 fun y H4 => tv σ2 H4 fun z H5 => ∃ (t : Addr) (k : List L2.Key) (kvs : List (List L2.Key × V)), y = .ref t ∧ H5 t = some (.tup (k.map kV)) ∧ H5 D = some (.dT kvs) ∧ kvs.length < sizeLine ∧
        Pv (i + 1) (upd H5 D (.dT (putK kvs k z))) else Pv (i + 1) H3) (hd : ∀ H, Pv n H → Qd H) :
    ∃ W : Nat → Nat → Hp → Prop, (∃ m, W 0 m (upd H1 D (.dT []))) ∧ ∀ i m H, W i m H → (J.stop i H ∧ Qd H) ∨
      (J.go i H ∧ ∃ Nx : Hp → Prop, (∀ H', Nx H' → ∃ m', m' < m ∧ W (i + 1) m' H') ∧ ∀ x H', J.yld i H x H' → g x (wipe σ vs) H' fun σ2 H2 => wipe σ2 vs = wipe σ vs ∧
        tt σ2 H2 fun b H3 => if b = true then tk σ2 H3 fun y H4 => tv σ2 H4 fun z H5 => ∃ (t : Addr) (k : List L2.Key) (kvs : List (List L2.Key × V)), y = .ref t ∧ H5 t = some (.tup (k.map kV)) ∧ H5 D = some (.dT kvs) ∧ kvs.length < sizeLine ∧
          Nx (upd H5 D (.dT (putK kvs k z))) else Nx H3) := by
  refine ⟨fun i m H => m + i = n ∧ Pv i H, ⟨n, by omega, h0⟩, fun i m H ⟨e, p⟩ => ?_⟩
  have here := hG i H (by omega) p
  rcases Nat.lt_or_ge i n with lt | ge
  · exact .inr ⟨wk.goes i H lt here, Pv (i + 1), fun H' p' => ⟨m - 1, by omega, by omega, p'⟩, fun x H' y => hs i x H H' lt p (wk.yields i H x H' lt here y)⟩
  · obtain rfl : i = n := by omega
    exact .inl ⟨wk.stops H here, hd H p⟩
/-! ### a walk over a list or a tuple -/
/-- as a list, or as a tuple -/
def AltI (K : PySem.W.Frag) (a : Addr) (H : Hp) (R : It → Hp → Prop) : Prop := ((∃ xs, SqL K H a xs) ∧ R (Itl K a) H) ∨ ((∃ xs, SqT K H a xs) ∧ R (Itt K a) H)
def iSeq (K : PySem.W.Frag) (tl : TE) : TI := fun σ H R => tl σ H fun x H1 => ∃ a, x = .ref a ∧ AltI K a H1 R
theorem pi_seq {tg l : Expr} {tl : TE} (hl : PE X l tl) : PI X tg l (iSeq X.K tl) := by
  refine ⟨fun pins s σ H R I h => thn (hl.run pins s σ H _ I h) fun v s1 ⟨x, H1, I1, r1, q1⟩ => ?_⟩
  obtain ⟨a, rfl, ⟨⟨xs, hq⟩, q⟩ | ⟨⟨xs, hq⟩, q⟩⟩ := q1
  · cases r1
    obtain ⟨its, rv, p, hz⟩ := I1.list hq
    exact wpAny_pyIter_list p.isList (pi_one (tk := s1.toks) I1 _ (turn_list a _) ⟨_, Heap.get?_push_size _ rfl, rfl, rfl⟩ q)
  · cases r1
    obtain ⟨its, rv, p, hz⟩ := I1.tuple hq
    exact wpAny_pyIter_tuple (show s1.heap.IsTuple a its.toArray from p) (pi_one (tk := s1.toks) I1 _ (turn_tuple a _) ⟨_, Heap.get?_push_size _ rfl, rfl, rfl⟩ q)
/-! ### d.items(), the keys being tuples -/
/-- each a new pair of the key's own tuple and the value -/
def ItiT (d : Addr) (o : Obj) (kvs : List (List L2.Key × V)) : It :=
  ⟨fun i H => H d = some (.frz o (.dT kvs)) ∧ i < kvs.length,
   fun i H x H' => ∃ (T q : Addr) (k : List L2.Key) (v : V), kvs[i]? = some (k, v) ∧ H q = some (.tup (k.map kV)) ∧ x = .ref T ∧ H T = none ∧ H' = upd H T (.tup [.ref q, v]),
   fun i H => H d = some (.frz o (.dT kvs)) ∧ kvs.length ≤ i⟩
theorem Inv.frzI {pins : List (Addr × Obj)} {σ : L2.St} {H : Hp} {s : Shared} {d : Addr} {o : Obj} {kvs : List (List L2.Key × V)} (I : Inv X pins σ H s) (h : H d = some (.frz o (.dT kvs))) :
    (d == sysModules) = false ∧ ∃ (es : Array DictEntry) (ep : Nat), o.data = .dict es ep ∧ s.heap.DictRaw d es ep ∧ es.size = kvs.length ∧
      ∀ (i : Nat) (k : List L2.Key) (v : V), kvs[i]? = some (k, v) → ∃ (en : DictEntry) (q : Addr), es[i]? = some en ∧ en.key = .ref q ∧ H q = some (.tup (k.map kV)) ∧ RelV v en.val := by
  obtain ⟨hd, z, lo, xs, pr, o', es, ep, ho, hx, hdt, he, _⟩ := I.hok d _ h
  obtain rfl : o = o' := Option.some.inj (hd.symm.trans ho)
  refine ⟨lo, es, ep, hdt, ⟨o, ho, hx, hdt⟩, ?_, fun i k v e => ?_⟩
  · have l1 : es.size = xs.length := size_of_entries he
    have l2 : kvs.length = xs.length := Paired.length pr
    omega
  · obtain ⟨b, hb, e1, e2, e3⟩ := paired_get pr e
    have q := entry_at he i
    rw [hb] at q
    exact ⟨_, b.2.1, q, rfl, e2, e3⟩
theorem turn_itemsT {P : Program} {w : World} {K : PySem.W.Frag} {d : Addr} {o : Obj} {es : Array DictEntry} {ep : Nat} {kvs : List (List L2.Key × V)} {elts : List Expr} {kk : Nat} {tpos : Pos} (it : Addr) (hod : o.data = .dict es ep) :
    Turn P w K (.Tuple elts kk tpos) (ItiT d o kvs) [it] it (fun i h => ∃ ok ov, IsItemIter h it d i kvs.length ep ok ov) where
  mem := List.mem_singleton.mpr rfl
  obj := fun i h ⟨ok, ov, e⟩ b hb => by
    obtain rfl := List.mem_singleton.mp hb
    exact ⟨_, e, fun v z => nomatch z⟩
  keep := fun i h h' ⟨ok, ov, e⟩ k => ⟨ok, ov, k it (List.mem_singleton.mpr rfl) _ e⟩
  item := by
    intro X hP hw hK hc i pins s σ H E I hf st hg
    subst hP hw hK
    obtain ⟨hd, hi⟩ := hg
    obtain ⟨lo, es', ep', hdt, raw, hsz, ent⟩ := Inv.frzI I hd
    obtain ⟨rfl, rfl⟩ := dict_ep hod hdt
    obtain ⟨⟨k, v⟩, hkv⟩ : ∃ p, kvs[i]? = some p := ⟨kvs[i], List.getElem?_eq_getElem hi⟩
    obtain ⟨en, q, hen, hkey, hq, ru⟩ := ent i k v hkv
    obtain ⟨ok, ov, he⟩ := st
    rw [← hsz] at he
    have lte : i < es'.size := by omega
    have een : es'[i] = en := by rw [Array.getElem?_eq_getElem lte] at hen; exact Option.some.inj hen
    have below : it < s.heap.objs.size := Heap.lt_size he
    refine wpAny_pyNext_items_item_raw he raw lte fun g ho hT hz old => ?_
    rw [een, hkey] at ho hT
    refine ⟨_, rfl, wpAny_letOwnedTupleGo_items (s := { s with heap := g }) ho fun g2 he' sb => ?_⟩
    have hT2 : g2.get? s.heap.objs.size = some { cls := .type "tuple", data := .seq #[Value.ref q, en.val] } := (sb.2 _ (Nat.ne_of_gt below)).trans hT
    have new : ObjOk X.prog X.w (upd H s.heap.objs.size (.tup [.ref q, v])) g2 s.heap.objs.size (.tup [.ref q, v]) :=
      ⟨(by decide : 2 ≤ sizeLine), [Value.ref q, en.val], .cons rfl (.cons ru .nil), ⟨_, hT2, rfl, _, rfl⟩⟩
    have I1 : Inv X pins σ (upd H s.heap.objs.size (.tup [.ref q, v])) { s with heap := g2 } :=
      I.turnedNew (t' := s.toks) (ch := [it]) (fun b ob hb e => (sb.2 b (by simpa using hb)).trans (old b ob (by simpa using hb) e)) hf (Nat.le_refl _) new
    refine ⟨.ref s.heap.objs.size, _, I1, rfl, ⟨_, q, k, v, hkv, hq, rfl, I.hok.fresh (Nat.le_refl _), rfl⟩, ⟨Value.ref q, en.val, ?_⟩, fun b hb => ?_⟩
    · rw [← hsz]; exact he'
    · obtain rfl := List.mem_singleton.mp hb
      rw [upd_ne (Nat.ne_of_lt below)]
      exact (hf _ (List.mem_singleton.mpr rfl)).1
  done := by
    intro X hP hw hK hc i pins s σ H E I hf st hg
    subst hP hw hK
    obtain ⟨hd, hi⟩ := hg
    obtain ⟨f0, f1, f2, f3, f4, f5⟩ := hf it (List.mem_singleton.mpr rfl)
    obtain ⟨lo, es', ep', hdt, raw, hsz, ent⟩ := Inv.frzI I hd
    obtain ⟨rfl, rfl⟩ := dict_ep hod hdt
    obtain ⟨ok, ov, he⟩ := st
    rw [← hsz] at he
    exact wpAny_pyNext_items_end_raw (I.ok.hd hc) he raw (by omega) fun g eb => ⟨rfl, I.turned (t' := s.toks) (fun b ob hb e => eb b ob hb e) f0 f1 f3 f4 f5⟩
  self := fun A i s Q E ⟨_, _, e⟩ h => PySem.W.kcp_self e h
def iItemsT (td : TE) : TI := fun σ H R => td σ H fun x H1 => ∃ d o kvs, x = .ref d ∧ H1 d = some (.frz o (.dT kvs)) ∧ R (ItiT d o kvs) H1
theorem pi_itemsT {e : Expr} {td : TE} {apos cpos : Pos} {elts : List Expr} {kk : Nat} {tpos : Pos} (he : PE X e td) (hbase : attributeBase e "items" X.env (eval e X.env) = eval e X.env := by rfl) (hline : (apos.endLine == cpos.line) = true := by rfl) :
    PI X (.Tuple elts kk tpos) (.Call (.Attribute e "items" apos) [] [] cpos) (iItemsT td) := by
  refine ⟨fun pins s σ H R I h => ?_⟩
  refine wpAny_Call_method (T := "dict") (id := "dict.items") hbase rfl hline F.plainAttrs_dict F.slot_dict_items F.type_dict_items (thn (he.run pins s σ H _ I h) fun u s1 ⟨x, H1, I1, rx, d, o, kvs, ex, hd, q⟩ => ?_)
  subst ex
  obtain rfl : u = Value.ref d := rx
  obtain ⟨lo, es, ep, hdt, raw, hsz, ent⟩ := Inv.frzI I1 hd
  refine ⟨raw.typeIs, fun b e => by cases e; obtain ⟨o, ho, hx, _⟩ := raw; exact ⟨o, ho, hx.2.1⟩, ?_⟩
  have I2 : Inv X pins σ H1 { s1 with heap := s1.heap.push { cls := .type "dict_items", data := .fields #[.ref d] } } := I1.kept (t' := s1.toks) fun b ob q => Heap.get?_push_of_some _ q
  have fin : wpAny (model X.prog X.w) X.A (pyIter (.ref s1.heap.objs.size)) (PIE X pins σ (.Tuple elts kk tpos) R) X.xe { s1 with heap := s1.heap.push { cls := .type "dict_items", data := .fields #[.ref d] } } := by
    refine wpAny_pyIter_items_raw (d := d) ⟨_, Heap.get?_push_size _ rfl, rfl, rfl⟩ (raw.at fun o e => Heap.get?_push_of_some _ e) (pi_one (tk := s1.toks) I2 _ (turn_itemsT _ hdt) ⟨.none, .none, ?_⟩ q)
    rw [hsz]
    exact Heap.get?_push_size _ rfl
  show wpAny _ _ (callWith cpos (.builtin "dict.items") [.ref d] [] []) _ X.xe s1
  exact method_meetsIn F.slot_dict_items F.entry_dict_items rfl (PySem.evalArgs_none ⟨rfl, raw.typeIs, F.args_dict_items_1 _, _, meets_dict_items_raw d lo, ⟨es, ep, raw⟩, fin⟩)
theorem walk_itemsT {d : Addr} {o : Obj} {kvs : List (List L2.Key × V)} : Walk (ItiT d o kvs) kvs.length (fun H => H d = some (.frz o (.dT kvs)))
    (fun i H x H' => ∃ (T q : Addr) (k : List L2.Key) (v : V), kvs[i]? = some (k, v) ∧ H q = some (.tup (k.map kV)) ∧ x = .ref T ∧ H T = none ∧ H' = upd H T (.tup [.ref q, v])) :=
  ⟨fun _ _ hi q => ⟨q, hi⟩, fun _ q => ⟨q, Nat.le_refl _⟩, fun _ _ _ _ _ _ y => y⟩
end
end Rp

set_option maxHeartbeats 8000000
/-! Making a Definitions object out of rules. -/
namespace Rp
open PySem PySem.Spec PyProof.Rows L2 TL StX
theorem RuAt.mono {H H' : Hp} (e : ∀ a xs, H a = some (.tup xs) → H' a = some (.tup xs)) {v : V} {r : Ru} (h : RuAt H v r) : RuAt H' v r := by
  obtain ⟨p, q, vh, xs, e1, h1, h2, h3, h4⟩ := h
  exact ⟨p, q, vh, xs, e1, e _ _ h1, atAt_mono e h2, e _ _ h3, h4.mono e⟩
theorem RusAt.mono {H H' : Hp} (e : ∀ a xs, H a = some (.tup xs) → H' a = some (.tup xs)) : ∀ {us : List V} {rs : List Ru}, RusAt H us rs → RusAt H' us rs
  | [], [], _ => trivial
  | _ :: _, _ :: _, h => ⟨h.1.mono e, RusAt.mono e h.2⟩
theorem RusAt.take {H : Hp} : ∀ {us : List V} {rs : List Ru} (i : Nat), RusAt H us rs → RusAt H (us.take i) (rs.take i)
  | [], [], i, _ => by simp [RusAt]
  | _ :: _, _ :: _, 0, _ => trivial
  | _ :: _, _ :: _, i + 1, h => ⟨h.1, RusAt.take i h.2⟩
def allAts (rs : List Ru) : List At := rs.flatMap fun r => r.hd :: r.bd
theorem allAts_more {rs : List Ru} {i : Nat} {r : Ru} (h : rs[i]? = some r) : allAts (rs.take (i + 1)) = allAts (rs.take i) ++ (r.hd :: r.bd) := by
  rw [List.take_add_one, h]
  simp [allAts]
theorem allAts_parts {rs : List Ru} (i : Nat) : allAts rs = allAts (rs.take i) ++ allAts (rs.drop i) := by
  unfold allAts
  rw [← List.flatMap_append, List.take_append_drop]
theorem allAts_le {rs : List Ru} (h : ∀ r ∈ rs, r.bd.length ≤ 9) : (allAts rs).length ≤ 10 * rs.length := by
  induction rs with
  | nil => simp [allAts]
  | cons r rs ih =>
    have h1 := h r (by simp)
    have h2 := ih fun u hu => h u (by simp [hu])
    have e : allAts (r :: rs) = (r.hd :: r.bd) ++ allAts rs := by simp [allAts]
    rw [e, List.length_append, List.length_cons, List.length_cons]
    omega
theorem clash_more : ∀ {as bs : List At} {kvs : KVs}, Kd kvs → (clash kvs as = none → clash kvs (as ++ bs) = clash (knows kvs as) bs) ∧ (∀ x, clash kvs as = some x → clash kvs (as ++ bs) = some x)
  | [], bs, kvs, _ => ⟨fun _ => rfl, fun x h => by cases h⟩
  | a :: as, bs, kvs, K => by
    rcases clash_step (a := a) (r := as) K with ⟨m, e, ⟨em, c, p⟩ | ⟨em, c⟩⟩ | ⟨e, c, k2⟩
    · obtain ⟨i1, i2⟩ := clash_more (as := as) (bs := bs) K
      have c2 : clash kvs (a :: (as ++ bs)) = clash kvs (as ++ bs) := by
        rcases clash_step (a := a) (r := as ++ bs) K with ⟨m', e', ⟨_, c', _⟩ | ⟨n', _⟩⟩ | ⟨e', _⟩
        · exact c'
        · rw [e] at e'
          have := Option.some.inj e'
          have := V.int.inj this
          omega
        · rw [e] at e'; cases e'
      rw [List.cons_append, c, c2]
      refine ⟨fun h => ?_, i2⟩
      show _ = clash (knows (putK kvs (.inr a.nm) (ctV a)) as) bs
      rw [p]
      exact i1 h
    · refine ⟨fun h => (by rw [c] at h; cases h), fun x h => ?_⟩
      rw [c] at h
      rw [List.cons_append]
      rcases clash_step (a := a) (r := as ++ bs) K with ⟨m', e', ⟨n', _⟩ | ⟨_, c'⟩⟩ | ⟨e', _⟩
      · rw [e] at e'
        have := Option.some.inj e'
        have := V.int.inj this
        omega
      · rw [c']; exact h
      · rw [e] at e'; cases e'
    · obtain ⟨i1, i2⟩ := clash_more (as := as) (bs := bs) k2
      have c2 : clash kvs (a :: (as ++ bs)) = clash (putK kvs (.inr a.nm) (ctV a)) (as ++ bs) := by
        rcases clash_step (a := a) (r := as ++ bs) K with ⟨m', e', _⟩ | ⟨_, c', _⟩
        · rw [e] at e'; cases e'
        · exact c'
      rw [List.cons_append, c, c2]
      exact ⟨i1, i2⟩
theorem dfF_new {lt dt : Addr} : putF "_terms" (.ref dt) (putF "_told" (.ref lt) []) = dfF lt dt := by
  have e1 : ¬ (("_told" : Str) = "_terms") := by decide +kernel
  show (if ("_told" : Str) = "_terms" then _ else (("_told" : Str), V.ref lt) :: putF "_terms" (.ref dt) []) = _
  rw [if_neg e1]
  rfl
/-- the rules that are given: a list, a tuple, or the empty tuple of the text -/
def GivenAt (K : PySem.W.Frag) (H : Hp) (q : Addr) (us : List V) : Prop := H q = some (.lst us) ∨ H q = some (.tup us) ∨ (us = [] ∧ ∀ H' : Hp, SqT K H' q [])
def spDInit (K : PySem.W.Frag) (C CC : Addr) : Sp := fun vs H Q E => ∃ (p q dx : Addr) (us : List V) (rs : List Ru), vs = [.ref p, .ref q] ∧ H p = some (.ins C dx []) ∧ GivenAt K H q us ∧ RusAt H us rs ∧ us.length ≤ 80 ∧ (∀ r ∈ rs, r.bd.length ≤ 9) ∧
  (clash [] (allAts rs) = none → ∀ (lt : Addr) (H' : Hp), H lt = none → DfAt C H' p lt us (knows [] (allAts rs)) → But p H H' → Q .non H') ∧
  (∀ x, clash [] (allAts rs) = some x → ∀ (d : Addr) (fs : List (Str × V)) (H' : Hp), H d = none → H' d = some (.xd fs) → fs.lookup ("what" : Str) = some (.str x) → But p H H' → E (.ref CC) (some d) H')
section
variable {P : Program} {w : World} {K : PySem.W.Frag} {mg : Str → Option Value} {base : Heap}
theorem scDInit : FnScope ["self", "rules", "rule"] ["self", "rules"] (defScope sDInit) := ⟨rfl, rfl, rfl, by decide +kernel, rfl, by decide +kernel, by decide +kernel⟩
theorem ok_dinit {f C CC fT q0 : Addr} {fd dT : FuncData} (F : FunD K "__init__" "Definitions.__init__" (defArgs sDInit) (defBody sDInit) (defScope sDInit) [.ref q0] [] f fd) (D : DfK K C)
    (GT : FnOk P w K mg base (L2.CX P w) 4 fT dT ["self", "rule"] (spTell C CC)) (mT : Meth K C "tell" fT) (bT : Binds K dT ["self", "rule"] []) : FnOk P w K mg base (L2.CX P w) 5 f fd ["self", "rules"] (spDInit K C CC) := by
  refine F.ok (CX := L2.CX P w) scDInit (fun vs H Q E h => ?_) (fun cdv A outer s H vs Q E hr h => ?_)
  · obtain ⟨p, q, dx, us, rs, rfl, _⟩ := h
    rfl
  obtain ⟨p, q, dx, us, rs, rfl, hp, hG, RS, ul, rb, qN, qE⟩ := h
  refine ⟨_, pss_cons (ps_fld (pv 0) (pe_lst pa_nil) rfl) (pss_cons (ps_fld (pv 0) pe_dnewK rfl)
    (pss_one (ps_for (passes_of rfl) rfl (pi_seq (pv 1)) (pg_name (i := 2) scDInit.nd rfl (Or.inl rfl))
      (pss_one (ps_expr (pe_meth (E := E) (pv 0) D.cls mT GT hr bT .nil (passes_call (W := fun cls d _ H => E cls d H) (takes_of rfl rfl rfl rfl) fun _ _ _ _ h => h) (pa_cons (pv 2) pa_nil))))))), ?_⟩
  have big : (10000 : Nat) ≤ sizeLine := by decide
  have rl := RS.len
  refine ⟨(by show 0 ≤ sizeLine; decide), fun lt hlt => ?_⟩
  have pl : p ≠ lt := ne_of_none hp hlt
  refine ⟨_, rfl, p, C, dx, _, rfl, by rw [upd_ne pl]; exact hp, D.cls, D.nT, (by show 0 < 1000; decide), fun dt hdt => ?_⟩
  have pd : p ≠ dt := ne_of_none upd_same hdt
  have ld : lt ≠ dt := by
    refine ne_of_none (o := .lst []) ?_ hdt
    rw [upd_ne pl.symm]; exact upd_same
  have hdt0 : H dt = none := by
    rw [upd_ne pd.symm, upd_ne ld.symm] at hdt; exact hdt
  refine ⟨_, rfl, p, C, dx, _, rfl, (by rw [upd_ne pd]; exact upd_same), D.cls, D.nM, (by show 1 < 1000; decide), ?_⟩
  rw [dfF_new]
  have D3 : DfAt C (upd (upd (upd (upd H lt (.lst [])) p (.ins C dx (putF "_told" (.ref lt) []))) dt (.dK [])) p (.ins C dx (dfF lt dt))) p lt [] [] :=
    ⟨dx, dt, upd_same, by rw [upd_ne pl.symm, upd_ne ld, upd_ne pl.symm]; exact upd_same, by rw [upd_ne pd.symm]; exact upd_same⟩
  have o3 : But p H (upd (upd (upd (upd H lt (.lst [])) p (.ins C dx (putF "_told" (.ref lt) []))) dt (.dK [])) p (.ins C dx (dfF lt dt))) := fun b o z nb => by
    rw [upd_ne nb, upd_ne (ne_of_none z hdt0), upd_ne nb, upd_ne (ne_of_none z hlt)]
    exact z
  generalize upd (upd (upd (upd H lt (.lst [])) p (.ins C dx (putF "_told" (.ref lt) []))) dt (.dK [])) p (.ins C dx (dfF lt dt)) = H3 at D3 o3 ⊢
  have tups : ∀ H4 : Hp, But p H H4 → ∀ a xs, H a = some (.tup xs) → H4 a = some (.tup xs) := fun H4 o a xs z => o _ _ z (ne_of z hp (by intro e; cases e))
  let Pv : Nat → L2.St → Hp → Prop := fun i σ H4 => ∃ x2 : Option V, σ = [some (.ref p), some (.ref q), x2] ∧ DfAt C H4 p lt (us.take i) (knows [] (allAts (rs.take i))) ∧ clash [] (allAts (rs.take i)) = none ∧ But p H H4
  have P0 : Pv 0 [some (.ref p), some (.ref q), none] H3 := ⟨none, rfl, D3, rfl, o3⟩
  have step : ∀ (i : Nat) (v : V) (H4 : Hp) (Q' : VK), us[i]? = some v → DfAt C H4 p lt (us.take i) (knows [] (allAts (rs.take i))) → clash [] (allAts (rs.take i)) = none → But p H H4 →
      (∀ z H5, Pv (i + 1) [some (.ref p), some (.ref q), some v] H5 → Q' z H5) → spTell C CC [.ref p, v] H4 Q' E := by
    intro i v H4 Q' hi DA cl o4 k
    obtain ⟨r, hri, T⟩ := RS.get hi
    have il := (List.getElem?_eq_some_iff.mp hi).1
    have tk : us.take (i + 1) = us.take i ++ [v] := by rw [List.take_add_one, hi]; rfl
    have am := allAts_more hri
    have kd := knows_ok Kd.nil cl
    obtain ⟨c1, _⟩ := clash_more (as := allAts (rs.take i)) (bs := r.hd :: r.bd) Kd.nil
    have ka : knows [] (allAts (rs.take (i + 1))) = knows (knows [] (allAts (rs.take i))) (r.hd :: r.bd) := by rw [am]; unfold knows; rw [List.foldl_append]
    have le1 := knows_le (as := allAts (rs.take i)) (kvs := [])
    have le2 := allAts_le (rs := rs.take i) fun r hr => rb r (List.mem_of_mem_take hr)
    rw [List.length_take] at le2
    have rbi := rb r (List.mem_of_getElem? hri)
    refine ⟨p, lt, us.take i, rs.take i, _, v, r, rfl, DA, (RS.take i).mono (tups H4 o4), by rw [List.length_take]; omega, kd, by simp at le1; omega, rbi, T.mono (tups H4 o4), fun cn H5 D5 o5 => ?_, fun x cx d fs H5 hd h5 hl s5 => ?_⟩
    · refine k _ H5 ⟨_, rfl, by rw [tk, ka]; exact D5, by rw [am, c1 cl]; exact cn, fun b o z nb => o5 _ _ (o4 _ _ z nb) nb (ne_of_none z hlt)⟩
    · have full : clash [] (allAts rs) = some x := by
        rw [allAts_parts (rs := rs) (i + 1), am]
        exact (clash_more Kd.nil).2 x (by rw [c1 cl]; exact cx)
      have hd0 : H d = none := by
        cases z : H d with
        | none => rfl
        | some u =>
          by_cases nb : d = p
          · obtain ⟨_, _, h4, _⟩ := DA
            rw [nb, h4] at hd; cases hd
          · rw [o4 _ _ z nb] at hd; cases hd
      exact qE x full d fs H5 hd0 h5 hl fun b o z nb => s5 _ _ (o4 _ _ z nb)
  have fin : ∀ (σ : L2.St) (H4 : Hp), Pv us.length σ H4 → Q .non H4 := by
    rintro σ H4 ⟨x2, rfl, D4, cl, o4⟩
    rw [List.take_length, rl, List.take_length] at D4
    rw [rl, List.take_length] at cl
    exact qN cl lt H4 hlt D4 o4
  have lists : ∀ H4 : Hp, But p H H4 → (H q = some (.lst us) → SqL K H4 q us) ∧ (H q = some (.tup us) → SqT K H4 q us) := fun H4 o =>
    ⟨fun z => .inl (.inl (o _ _ z (ne_of z hp (by intro e; cases e)))), fun z => .inl (.inl (o _ _ z (ne_of z hp (by intro e; cases e))))⟩
  refine ⟨_, rfl, q, rfl, ?_⟩
  rcases hG with hG | hG | ⟨e, hG⟩
  · refine .inl ⟨⟨us, (lists _ o3).1 hG⟩, for_list (K := K) (a := q) (xs := us) Pv P0 (fun i σ H4 _ ⟨_, _, _, _, o4⟩ => (lists _ o4).1 hG) ?_ fin⟩
    rintro i v σ H4 hi ⟨x2, rfl, DA, cl, o4⟩
    obtain ⟨dx4, dt4, hp4, _⟩ := id DA
    exact ⟨_, rfl, p, dx4, _, rfl, hp4, dfF_no (by decide +kernel) (by decide +kernel), _, rfl, step i v H4 _ hi DA cl o4 fun z H5 h => h⟩
  · refine .inr ⟨⟨us, (lists _ o3).2 hG⟩, for_tup (K := K) (a := q) (xs := us) Pv P0 (fun i σ H4 _ ⟨_, _, _, _, o4⟩ => (lists _ o4).2 hG) ?_ fin⟩
    rintro i v σ H4 hi ⟨x2, rfl, DA, cl, o4⟩
    obtain ⟨dx4, dt4, hp4, _⟩ := id DA
    exact ⟨_, rfl, p, dx4, _, rfl, hp4, dfF_no (by decide +kernel) (by decide +kernel), _, rfl, step i v H4 _ hi DA cl o4 fun z H5 h => h⟩
  · subst e
    refine .inr ⟨⟨[], hG _⟩, for_tup (K := K) (a := q) (xs := []) Pv P0 (fun i σ H4 _ _ => hG _) ?_ fin⟩
    rintro i v σ H4 hi _
    simp at hi
end
end Rp

/-! In a try: a method that may raise; an object whose __init__ may raise. -/
namespace Rp
open PySem PySem.Spec PyProof.Rows L2
section
variable {X : Cx} {CX : CXT} {k : Nat} {f C : Addr} {fd : FuncData} {ps : List Str} {sp : Sp} {E : L2.St → XK} {x m : Str} {p pos apos : Pos} {e o : Expr} {es : List Expr} {ta : TE} {t : TA}
def tMethW (C : Addr) (m : Str) (sp : Sp) (E : L2.St → XK) (ta : TE) (t : TA) : TE := fun σ H Q => ta σ H fun x H1 => ∃ a dx fs, x = .ref a ∧ H1 a = some (.ins C dx fs) ∧ fs.lookup m = none ∧ t σ H1 fun vs H2 => sp (x :: vs) H2 Q (E σ)
theorem pe_methW {pl : Sem Bool} (he : PE X o ta) (c : Cls X.K C) (hm : Meth X.K C m f) (F : FnOk X.prog X.w X.K X.mg X.base CX k f fd ps sp) (hr : Room k X.A) (hb : Binds X.K fd ps []) (hx : ∀ σ, PassesAt CX X σ (E σ)) (ha : PA X (e :: es) t)
    (hst : starEach (e :: es) X.env = (false, eval e X.env) :: starEach es X.env := by rfl) (hpl : (backTo pos (starEach es X.env)).any (·.1) = false := by rfl)
    (ht : eval (.Call (.Attribute o m apos) (e :: es) [] pos) X.env = (do
      let ov ← eval o X.env
      standAt apos.atName
      let (f, first) ← holding [ov] (getMethod ov m pl)
      callWith pos f first (backTo pos (starEach (e :: es) X.env)) (backToKw pos (keywordEach [] X.env))) := by rfl) :
    PE X (.Call (.Attribute o m apos) (e :: es) [] pos) (tMethW C m sp E ta t) where
  run := fun pins s σ H Q I h => by
    refine PySem.W.methodCall_KW (pl := pl) (thn (he.run pins s σ H _ I h) fun u s1 ⟨y, H1, I1, ry, a, dx, fs, ey, ea, l, q⟩ => ?_) ht
    subst ey
    cases (show u = Value.ref a from ry)
    exact getmeth_ok I1 ea c hm l (PySem.W.callWith_K (first := [.ref a]) (h₀ := X.base) I.ok.mod.kin hm.kp
      (thn (ha.run pos pins s1 σ H1 _ I1 q) fun us s2 ⟨vs, H2, I2, r, q2⟩ => ⟨I2.kIn, run_fnS (us := .ref a :: us) (vs := .ref a :: vs) F hr hb (hx σ) I2 (.cons rfl r) q2⟩) hst hpl)
def tMakeW (C : Addr) (sp : Sp) (E : L2.St → XK) (t : TA) : TE := fun σ H Q => t σ H fun vs H1 => ∀ x dx, H1 x = none → H1 dx = none → dx ≠ x →
  sp (.ref x :: vs) (upd (upd H1 dx (.own x)) x (.ins C dx [])) (fun v H2 => v = .non ∧ Q (.ref x) H2) (E σ)
theorem pe_makeW (M : Mk X.K C f) (F : FnOk X.prog X.w X.K X.mg X.base CX k f fd ps sp) (hr : Room (k + 1) X.A) (hg : Gl X x) (hm : X.mg x = some (.ref C)) (hb : Binds X.K fd ps []) (hx : ∀ σ, PassesAt CX X σ (E σ)) (ha : PA X (e :: es) t)
    (hdb : (x == ("__debug__" : Str)) = false := by decide) (he : starEach (e :: es) X.env = (false, eval e X.env) :: starEach es X.env := by rfl) (hpl : (backTo pos (starEach es X.env)).any (·.1) = false := by rfl) :
    PE X (.Call (.Name x p) (e :: es) [] pos) (tMakeW C sp E t) where
  run := fun pins s σ H Q I h => by
    refine wpAny_Call_Name_kw (ld_glob I hg hm (PySem.W.callWith_K (h₀ := X.base) I.ok.mod.kin M.kp (thn (ha.run pos pins s σ H _ I h) fun us s1 ⟨vs, H1, I1, r, q⟩ => ⟨I1.kIn, ?_⟩) he hpl) hdb)
    have q0 := q (s1.heap.objs.size + 1) s1.heap.objs.size (I1.hok.fresh (Nat.le_succ _)) (I1.hok.fresh (Nat.le_refl _)) (Nat.ne_of_lt (Nat.lt_succ_self _))
    have J := Inv.made (C := C) I1
    have rr : Vals (V.ref (s1.heap.objs.size + 1) :: vs) (Value.ref (s1.heap.objs.size + 1) :: us) := .cons rfl r
    have b := hb _ (Value.ref (s1.heap.objs.size + 1) :: us) J.kIn (by rw [List.append_nil, ← rr.length]; exact F.len _ _ _ _ q0)
    rw [List.append_nil] at b
    refine wpAny_call (make_map (f := f) I1.kIn M.makes M.init (beq_iff_eq.mp M.fn) (codeAny_mono (F.run _ X.stack _ _ ⟨Value.ref (s1.heap.objs.size + 1) :: us, []⟩ _ _ _ (E σ) (hr.make C us []) (J.env0.make C us []) b rr q0) fun z s' hz => ?_))
    match z, hz with
    | .error e, hz => exact hx σ _ _ _ e s' J hz
    | .ok (.ret u), hz =>
      obtain ⟨v, H', I3, rv, ev, q3⟩ := J.after hz
      subst ev
      exact ⟨rv, ⟨V.ref (s1.heap.objs.size + 1), H', I3, rfl, q3⟩⟩
    | .ok .next, hz => exact False.elim hz
    | .ok .brk, hz => exact False.elim hz
    | .ok .cont, hz => exact False.elim hz
end
end Rp

set_option maxHeartbeats 8000000
/-! The law asks: telling in a try. -/
namespace Rp
open PySem PySem.Spec PyProof.Rows L2 TL StX
structure ErrG (K : PySem.W.Frag) (mg : Str → Option Value) (CE CC CB CN : Addr) : Prop where
  mE : mg "RingError" = some (.ref CE)
  mC : mg "Clash" = some (.ref CC)
  mB : mg "BadText" = some (.ref CB)
  mN : mg "NoRule" = some (.ref CN)
  exE : PySem.W.exmOne K (.ref CC) (.ref CE) = some true
  exC : PySem.W.exmOne K (.ref CC) (.ref CC) = some true
  kC : PySem.W.kitOne K (.ref CC) (.ref CC) = some true
  kV : PySem.W.kitOne K (.ref CC) (.type "ValueError") = some true
  kBN : PySem.W.kitAny K (.ref CC) [.ref CB, .ref CN] = some false
  exc : ExcC K CC
  xf : XfC K CC
  wh : PySem.W.findIn K (.ref CC) "what" = some none
def spAsked (C : Addr) : Sp := fun vs H Q _ => ∃ (p lt : Addr) (us : List V) (rs : List Ru) (kvs : KVs) (v : V) (r : Ru), vs = [.ref p, v] ∧ DfAt C H p lt us kvs ∧ RusAt H us rs ∧ us.length ≤ 800 ∧ Kd kvs ∧ kvs.length ≤ 900 ∧ r.bd.length ≤ 9 ∧ RuAt H v r ∧
  (clash kvs (r.hd :: r.bd) = none → ∀ (H' : Hp), DfAt C H' p lt (us ++ [v]) (knows kvs (r.hd :: r.bd)) → But2 p lt H H' → Q (.int ((picked r.hd.nm us rs).length : Nat)) H') ∧
  (∀ x, clash kvs (r.hd :: r.bd) = some x → ∀ (q : Addr) (H' : Hp), H q = none → H' q = some (.lst [.str "Clash", .str x]) → Same H H' → Q (.ref q) H')
section
variable {P : Program} {w : World} {K : PySem.W.Frag} {mg : Str → Option Value} {base : Heap}
end
end Rp

/-! A def or a method called with keywords alone. -/
namespace Rp
open PySem PySem.Spec PyProof.Rows L2
section
variable {X : Cx} {CX : CXT} {k : Nat} {f C : Addr} {fd : FuncData} {ps ks : List Str} {sp : Sp} {E : XK} {x m : Str} {p pos apos : Pos} {o : Expr} {kws : List Keyword} {ta : TE} {tk : TA} {g : List Value → List Value → List Value} {gV : List V → List V → List V}
theorem pe_callKw (F : FnOk X.prog X.w X.K X.mg X.base CX k f fd ps sp) (hr : Room k X.A) (hg : Gl X x) (hm : X.mg x = some (.ref f)) (hk : PySem.W.keepIn X.K (.ref f) = true) (hb : KBinds X.K fd ps ks g gV) (hx : Passes CX X E)
    (hkw : PK X kws tk) (hall : (backToKw pos (keywordEach kws X.env)).all (·.1.isSome) = true := by rfl) (hks : (backToKw pos (keywordEach kws X.env)).filterMap (·.1) = ks := by rfl)
    (hdb : (x == ("__debug__" : Str)) = false := by decide) (hpl : ((backTo pos (starEach [] X.env)).any (·.1) || (backToKw pos (keywordEach kws X.env)).any (·.1.isNone)) = false := by rfl) :
    PE X (.Call (.Name x p) [] kws pos) (tCallK sp gV E tNil tk) := by
  refine ⟨fun pins s σ H Q I h => ?_⟩
  refine wpAny_Call_Name_kw (ld_glob I hg hm ?_ hdb)
  refine PySem.W.callWith_KW0 (h₀ := X.base) I.ok.mod.kin hk hall (thn (hkw.run pos pins s σ H _ I h) fun ws s2 ⟨zs, H2, I2, rz, q2⟩ => ⟨I2.kIn, ?_⟩) hpl
  rw [hks]
  exact run_fnk F hr hb hx I2 .nil rz q2
/-- o.m(k = v, ..): what stands first is the object -/
def tMethK (C : Addr) (m : Str) (sp : Sp) (gV : List V → List V → List V) (E : XK) (ta : TE) (tk : TA) : TE := fun σ H Q => ta σ H fun x H1 => ∃ a dx fs, x = .ref a ∧ H1 a = some (.ins C dx fs) ∧ fs.lookup m = none ∧ tk σ H1 fun zs H2 => sp (gV [x] zs) H2 Q E
theorem pe_methKw {pl : Sem Bool} (he : PE X o ta) (c : Cls X.K C) (hm : Meth X.K C m f) (F : FnOk X.prog X.w X.K X.mg X.base CX k f fd ps sp) (hr : Room k X.A) (hb : KBinds X.K fd ps ks g gV) (hx : Passes CX X E)
    (hkw : PK X kws tk) (hall : (backToKw pos (keywordEach kws X.env)).all (·.1.isSome) = true := by rfl) (hks : (backToKw pos (keywordEach kws X.env)).filterMap (·.1) = ks := by rfl)
    (hpl : ((backTo pos (starEach [] X.env)).any (·.1) || (backToKw pos (keywordEach kws X.env)).any (·.1.isNone)) = false := by rfl)
    (ht : eval (.Call (.Attribute o m apos) [] kws pos) X.env = (do
      let ov ← eval o X.env
      standAt apos.atName
      let (f, first) ← holding [ov] (getMethod ov m pl)
      callWith pos f first (backTo pos (starEach [] X.env)) (backToKw pos (keywordEach kws X.env))) := by rfl) :
    PE X (.Call (.Attribute o m apos) [] kws pos) (tMethK C m sp gV E ta tk) where
  run := fun pins s σ H Q I h => by
    refine PySem.W.methodCall_KW (pl := pl) (thn (he.run pins s σ H _ I h) fun u s1 ⟨y, H1, I1, ry, a, dx, fs, ey, ea, l, q⟩ => ?_) ht
    subst ey
    cases (show u = Value.ref a from ry)
    refine getmeth_ok I1 ea c hm l (PySem.W.callWith_KW0 (first := [.ref a]) (h₀ := X.base) I.ok.mod.kin hm.kp hall
      (thn (hkw.run pos pins s1 σ H1 _ I1 q) fun ws s2 ⟨zs, H2, I2, rz, q2⟩ => ⟨I2.kIn, ?_⟩) hpl)
    rw [hks]
    rw [List.append_nil]
    exact run_fnk (us := [.ref a]) (vs := [.ref a]) F hr hb hx I2 (.cons rfl .nil) rz q2
/-- the same in a try -/
def tMethKW (C : Addr) (m : Str) (sp : Sp) (gV : List V → List V → List V) (E : L2.St → XK) (ta : TE) (tk : TA) : TE := fun σ H Q => ta σ H fun x H1 => ∃ a dx fs, x = .ref a ∧ H1 a = some (.ins C dx fs) ∧ fs.lookup m = none ∧ tk σ H1 fun zs H2 => sp (gV [x] zs) H2 Q (E σ)
theorem run_fnkS {E : XK} {pins : List (Addr × Obj)} {σ : L2.St} {H : Hp} {s : Shared} {Q : VK} {us ws : List Value} {vs zs : List V} (F : FnOk X.prog X.w X.K X.mg X.base CX k f fd ps sp) (hr : Room k X.A) (hb : KBinds X.K fd ps ks g gV) (hx : PassesAt CX X σ E)
    (I : Inv X pins σ H s) (r : Vals vs us) (rz : Vals zs ws) (h : sp (gV vs zs) H Q E) : wpAny (model X.prog X.w) X.A (call (.ref f) us (ks.zip ws)) (EP X pins σ Q) X.xe s := by
  have r2 := hb.rel r rz
  have hl : (g us ws).length = ps.length := by rw [← r2.length]; exact F.len _ _ _ _ h
  refine wpAny_call (codeAny_mono (F.run X.A X.stack s H ⟨us, ks.zip ws⟩ (g us ws) (gV vs zs) Q E hr I.env0 (hb.to s us ws I.kIn hl) r2 h) fun r s' hq => ?_)
  cases r with
  | error e => exact hx pins H s e s' I hq
  | ok fl =>
    cases fl with
    | ret u => exact I.after hq
    | next => exact False.elim hq
    | brk => exact False.elim hq
    | cont => exact False.elim hq
theorem pe_methKW {E : L2.St → XK} {pl : Sem Bool} (he : PE X o ta) (c : Cls X.K C) (hm : Meth X.K C m f) (F : FnOk X.prog X.w X.K X.mg X.base CX k f fd ps sp) (hr : Room k X.A) (hb : KBinds X.K fd ps ks g gV) (hx : ∀ σ, PassesAt CX X σ (E σ))
    (hkw : PK X kws tk) (hall : (backToKw pos (keywordEach kws X.env)).all (·.1.isSome) = true := by rfl) (hks : (backToKw pos (keywordEach kws X.env)).filterMap (·.1) = ks := by rfl)
    (hpl : ((backTo pos (starEach [] X.env)).any (·.1) || (backToKw pos (keywordEach kws X.env)).any (·.1.isNone)) = false := by rfl)
    (ht : eval (.Call (.Attribute o m apos) [] kws pos) X.env = (do
      let ov ← eval o X.env
      standAt apos.atName
      let (f, first) ← holding [ov] (getMethod ov m pl)
      callWith pos f first (backTo pos (starEach [] X.env)) (backToKw pos (keywordEach kws X.env))) := by rfl) :
    PE X (.Call (.Attribute o m apos) [] kws pos) (tMethKW C m sp gV E ta tk) where
  run := fun pins s σ H Q I h => by
    refine PySem.W.methodCall_KW (pl := pl) (thn (he.run pins s σ H _ I h) fun u s1 ⟨y, H1, I1, ry, a, dx, fs, ey, ea, l, q⟩ => ?_) ht
    subst ey
    cases (show u = Value.ref a from ry)
    refine getmeth_ok I1 ea c hm l (PySem.W.callWith_KW0 (first := [.ref a]) (h₀ := X.base) I.ok.mod.kin hm.kp hall
      (thn (hkw.run pos pins s1 σ H1 _ I1 q) fun ws s2 ⟨zs, H2, I2, rz, q2⟩ => ⟨I2.kIn, ?_⟩) hpl)
    rw [hks]
    rw [List.append_nil]
    exact run_fnkS (us := [.ref a]) (vs := [.ref a]) F hr hb (hx σ) I2 (.cons rfl .nil) rz q2
end
/-- keywords of a def, in any order -/
def gcat {α : Type} : List α → List α → List α := fun us ws => us ++ ws
def gswp {α : Type} : List α → List α → List α
  | [], [b, t] => [t, b]
  | us, ws => us ++ ws
theorem gswp_rel {vs : List V} {us : List Value} {zs : List V} {ws : List Value} (r : Vals vs us) (r' : Vals zs ws) : Vals (gswp vs zs) (gswp us ws) := by
  cases r with
  | nil =>
    cases r' with
    | nil => exact .nil
    | cons a t =>
      cases t with
      | nil => exact .cons a .nil
      | cons b t =>
        cases t with
        | nil => exact .cons b (.cons a .nil)
        | cons c t => exact .cons a (.cons b (.cons c t))
  | cons a t => exact (show Vals (_ :: _) (_ :: _) from .cons a t).append r'
/-- a def of one parameter -/
theorem kb_one {K : PySem.W.Frag} {x q : Str} {st : Stmt} {f : Addr} {fd : FuncData} {p : Str} (F : Fun K x q st f fd)
    (h : ∀ (kV doc pm : Value) (an : Option Addr) (cdv ct w : Value), bindArgs (PySem.W.fnOf x q (defArgs st) (defBody st) (defScope st) .none kV doc pm an cdv ct) ⟨[], [(p, w)]⟩ = pure [(p, w)])
    (h' : ∀ (kV doc pm : Value) (an : Option Addr) (cdv ct w : Value), bindArgs (PySem.W.fnOf x q (defArgs st) (defBody st) (defScope st) .none kV doc pm an cdv ct) ⟨[w], []⟩ = pure [(p, w)]) : KBinds K fd [p] [p] gcat gcat := by
  obtain ⟨oc, od, kV, doc, pm, an, cdv, ct, osl, rfl, lk, hcd⟩ := F.ex
  refine ⟨fun s us ws _ hl => .of_eq ?_, fun r r' => r.append r'⟩
  match us, ws, hl with
  | [], [w], _ => exact h kV doc pm an cdv ct w
  | [w], [], _ => exact h' kV doc pm an cdv ct w
  | [], [], h => exact absurd h (by simp [gcat])
  | [], _ :: _ :: _, h => exact absurd h (by simp [gcat])
  | [_], _ :: _, h => exact absurd h (by simp [gcat])
  | _ :: _ :: _, _, h => exact absurd h (by simp [gcat])
/-- self and one more, named -/
def gself {α : Type} : List α → List α → List α
  | [v], [w] => [v, w]
  | _, _ => []
theorem gself_rel {vs : List V} {us : List Value} {zs : List V} {ws : List Value} (r : Vals vs us) (r' : Vals zs ws) : Vals (gself vs zs) (gself us ws) := by
  cases r with
  | nil => exact .nil
  | cons a t =>
    cases t with
    | nil =>
      cases r' with
      | nil => exact .nil
      | cons b t =>
        cases t with
        | nil => exact .cons a (.cons b .nil)
        | cons c t => exact .nil
    | cons c t => exact .nil
theorem kb_self {K : PySem.W.Frag} {x q : Str} {st : Stmt} {f : Addr} {fd : FuncData} {o p : Str} (F : Fun K x q st f fd)
    (h : ∀ (kV doc pm : Value) (an : Option Addr) (cdv ct v w : Value), bindArgs (PySem.W.fnOf x q (defArgs st) (defBody st) (defScope st) .none kV doc pm an cdv ct) ⟨[v], [(p, w)]⟩ = pure [(o, v), (p, w)]) : KBinds K fd [o, p] [p] gself gself := by
  obtain ⟨oc, od, kV, doc, pm, an, cdv, ct, osl, rfl, lk, hcd⟩ := F.ex
  refine ⟨fun s us ws _ hl => .of_eq ?_, gself_rel⟩
  match us, ws, hl with
  | [v], [w], _ => exact h kV doc pm an cdv ct v w
  | [], _, h => exact absurd h (by simp [gself])
  | [_], [], h => exact absurd h (by simp [gself])
  | [_], _ :: _ :: _, h => exact absurd h (by simp [gself])
  | _ :: _ :: _, _, h => exact absurd h (by simp [gself])
/-- two parameters, named the other way round -/
def gtwo {α : Type} : List α → List α → List α
  | [], [b, t] => [t, b]
  | _, _ => []
theorem gtwo_rel {vs : List V} {us : List Value} {zs : List V} {ws : List Value} (r : Vals vs us) (r' : Vals zs ws) : Vals (gtwo vs zs) (gtwo us ws) := by
  cases r with
  | nil =>
    cases r' with
    | nil => exact .nil
    | cons a t =>
      cases t with
      | nil => exact .nil
      | cons b t =>
        cases t with
        | nil => exact .cons b (.cons a .nil)
        | cons c t => exact .nil
  | cons a t => exact .nil
theorem kb_two {K : PySem.W.Frag} {x q : Str} {st : Stmt} {f : Addr} {fd : FuncData} {o p : Str} (F : Fun K x q st f fd)
    (h : ∀ (kV doc pm : Value) (an : Option Addr) (cdv ct v w : Value), bindArgs (PySem.W.fnOf x q (defArgs st) (defBody st) (defScope st) .none kV doc pm an cdv ct) ⟨[], [(p, w), (o, v)]⟩ = pure [(o, v), (p, w)]) : KBinds K fd [o, p] [p, o] gtwo gtwo := by
  obtain ⟨oc, od, kV, doc, pm, an, cdv, ct, osl, rfl, lk, hcd⟩ := F.ex
  refine ⟨fun s us ws _ hl => .of_eq ?_, gtwo_rel⟩
  match us, ws, hl with
  | [], [w, v], _ => exact h kV doc pm an cdv ct v w
  | [], [], h => exact absurd h (by simp [gtwo])
  | [], [_], h => exact absurd h (by simp [gtwo])
  | [], _ :: _ :: _ :: _, h => exact absurd h (by simp [gtwo])
  | _ :: _, _, h => exact absurd h (by simp [gtwo])
end Rp

set_option maxHeartbeats 8000000
/-! The text of all rules. -/
namespace Rp
open PySem PySem.Spec PyProof.Rows L2 TL StX
def dtxt (rs : List Ru) : Str := Txt.join "\n" (rs.map rtxt)
def Rowy (x : Str) : Prop := ∀ d ∈ tl x, 32 ≤ d
theorem rowy_app {a b : Str} (ha : Rowy a) (hb : Rowy b) : Rowy (a ++ b) := fun d hd => by
  rw [tl_append] at hd
  rcases List.mem_append.mp hd with hd | hd
  · exact ha d hd
  · exact hb d hd
theorem rowy_of {x : Str} {l : List Nat} (e : tl x = l) (h : ∀ d ∈ l, 32 ≤ d) : Rowy x := fun d hd => h d (by rw [← e]; exact hd)
theorem atxt_rowy {a : At} (ok : AtOk 50 a) : Rowy (atxt a) := by
  intro d hd
  rw [atxt_tl] at hd
  rcases List.mem_append.mp hd with hd | hd
  · have := ok.nm.low d hd; omega
  · obtain ⟨t, ht, hd⟩ := List.mem_flatMap.mp hd
    rcases List.mem_cons.mp hd with rfl | hd
    · omega
    · have := txt_low t (ok.sm t ht).1 d hd; omega
theorem rowy_join {y : Str} (hy : Rowy y) : ∀ {l : List Str}, (∀ x ∈ l, Rowy x) → Rowy (Txt.join y l)
  | [], _ => fun d hd => by
    have e : tl (Txt.join y []) = [] := by rw [TL.join_eq]; rfl
    rw [e] at hd; simp at hd
  | [x], h => by
    have e : Txt.join y [x] = x := by rw [TL.join_eq]; simp [Str.join]
    rw [e]; exact h x (by simp)
  | x :: z :: l, h => by
    have e : Txt.join y (x :: z :: l) = x ++ y ++ Txt.join y (z :: l) := by rw [TL.join_eq, TL.join_eq]; rfl
    rw [e]
    exact rowy_app (rowy_app (h x (by simp)) hy) (rowy_join hy fun w hw => h w (by simp at hw ⊢; exact .inr hw))
theorem rtxt_rowy {r : Ru} (ok : RuOk r) : Rowy (rtxt r) := by
  unfold rtxt
  have h := atxt_rowy ok.hd.toAtOk
  split
  · exact h
  · refine rowy_app (rowy_app h (rowy_of t_if (by decide))) (rowy_join (rowy_of t_cs (by decide)) fun x hx => ?_)
    obtain ⟨a, ha, rfl⟩ := List.mem_map.mp hx
    exact atxt_rowy (ok.bd.ok a ha)
theorem slen' (a b : Str) : (a ++ b).length = a.length + b.length := Str.length_append a b
theorem atxt_pos {a : At} (ok : AtOk 50 a) : 1 ≤ (atxt a).length := by
  have p := ok.nm.pos
  rw [len_tl] at p ⊢
  rw [atxt_tl, List.length_append]
  omega
theorem rtxt_pos {r : Ru} (ok : RuOk r) : 1 ≤ (rtxt r).length := by
  have h := atxt_pos ok.hd.toAtOk
  unfold rtxt
  split
  · exact h
  · rw [slen', slen']; omega
theorem dtxt_len {rs : List Ru} (ok : ∀ r ∈ rs, RuOk r) (l : rs.length ≤ 80) : ((rs.map rtxt).map (·.length)).sum + (rs.map rtxt).length * 1 ≤ 300000 := by
  have each : ∀ l : List Ru, (∀ r ∈ l, RuOk r) → ((l.map rtxt).map (·.length)).sum ≤ 3600 * l.length := by
    intro l
    induction l with
    | nil => intro _; simp
    | cons a l ih =>
      intro h
      have h1 := rtxt_len (h a (by simp))
      have h2 := ih fun b hb => h b (by simp [hb])
      simp only [List.map_cons, List.sum_cons, List.length_cons] at h2 ⊢
      omega
  have := each rs ok
  rw [List.length_map]
  omega
theorem t_nl : tl ("\n" : Str) = [10] := by decide +kernel
theorem l_nl : ("\n" : Str).length = 1 := by decide +kernel
theorem dtxt_split {rs : List Ru} (ok : ∀ r ∈ rs, RuOk r) (ne : rs ≠ []) : Txt.split (dtxt rs) "\n" = rs.map rtxt := by
  refine split_join t_nl (by decide +kernel) (by simpa using ne) fun p hp hd => ?_
  obtain ⟨r, hr, rfl⟩ := List.mem_map.mp hp
  have := rtxt_rowy (ok r hr) _ hd
  omega
theorem dtxt_pos {rs : List Ru} (ok : ∀ r ∈ rs, RuOk r) (ne : rs ≠ []) : 1 ≤ (dtxt rs).length := by
  match rs, ne with
  | r :: rs, _ =>
    have h := rtxt_pos (ok r (by simp))
    unfold dtxt
    cases rs with
    | nil =>
      have e : Txt.join "\n" ([r].map rtxt) = rtxt r := by rw [TL.join_eq]; simp [Str.join]
      rw [e]; exact h
    | cons z l =>
      have e : Txt.join "\n" ((r :: z :: l).map rtxt) = rtxt r ++ "\n" ++ Txt.join "\n" ((z :: l).map rtxt) := by rw [TL.join_eq, TL.join_eq]; rfl
      rw [e, slen', slen']; omega
def spDefsText (C : Addr) : Sp := fun vs H Q _ => ∃ (p lt : Addr) (us : List V) (rs : List Ru) (kvs : KVs), vs = [.ref p] ∧ DfAt C H p lt us kvs ∧ RusAt H us rs ∧ us.length ≤ 80 ∧ rs ≠ [] ∧ (∀ r ∈ rs, RuOk r) ∧ ∀ H', Same H H' → Q (.str (dtxt rs)) H'
section
variable {P : Program} {w : World} {K : PySem.W.Frag} {mg : Str → Option Value} {base : Heap}
theorem scDefsText : FnScope ["defs", "rule"] ["defs"] (defScope sDefsText) := ⟨rfl, rfl, rfl, by decide +kernel, rfl, by decide +kernel, by decide +kernel⟩
theorem ok_defstext {f C fA fT : Addr} {fd dA dT : FuncData} (F : Fun K "definitions_text" "definitions_text" sDefsText f fd) (D : DfK K C)
    (GA : FnOk P w K mg base CX0 1 fA dA ["self"] (spAllR C)) (mA : Meth K C "all_rules" fA) (bA : Binds K dA ["self"] [])
    (GT : FnOk P w K mg base CX0 7 fT dT ["rule"] spRuleText) (kT : PySem.W.keepIn K (.ref fT) = true) (bT : Binds K dT ["rule"] []) (mT : mg "rule_text" = some (.ref fT)) :
    FnOk P w K mg base CX0 8 f fd ["defs"] (spDefsText C) := by
  refine F.ok scDefsText (fun vs H Q E h => ?_) (fun cdv A outer s H vs Q E hr h => ?_)
  · obtain ⟨p, lt, us, rs, kvs, rfl, _⟩ := h
    rfl
  obtain ⟨p, lt, us, rs, kvs, rfl, DA, RS, ul, ne, ok, q⟩ := h
  have r1 : Room 1 _ := hr.mono (by decide)
  refine ⟨_, pss_one (ps_ret (pe_orT (pe_bm PySem.F.plainAttrs_str PySem.F.slot_str_join PySem.F.type_str_join mt_join pe_str (pa_cons
      (pe_lc (own := [("rule", 1)]) (g := gName 1) (tt := tYes) (te := tCall spRuleText [] E0 (tCons (tVar 1) tNil)) rfl scDefsText.nd (pi_list (pe_meth0 (pv 0) D.cls mA GA r1 bA .nil pass0)) (blkOk_by (N := ["defs", "rule"]) (sc := defScope sDefsText) (by decide +kernel)) (fun _ _ _ _ _ => pg_name (i := 1) scDefsText.nd rfl (Or.inl rfl))
        (fun _ _ _ _ _ => pts_nil) (fun _ _ _ _ _ => pe_call GT hr (by rfl) mT kT bT .nil pass0 (pa_cons (pv 1) pa_nil))) pa_nil)) (pe_one pe_str))), ?_⟩
  have big : (10000 : Nat) ≤ sizeLine := by decide
  have rl := RS.len
  refine ⟨rfl, ?_⟩
  obtain ⟨dx, dt, hp, hlt, hdt⟩ := DA
  refine ⟨_, rfl, p, dx, _, rfl, hp, dfF_no (by decide +kernel) (by decide +kernel), p, lt, us, kvs, rfl, ⟨dx, dt, hp, hlt, hdt⟩, by omega, fun g H1 hg0 hg s1 => ?_⟩
  refine ⟨g, rfl, ⟨_, .inl (.inl hg)⟩, fun R hR => ?_⟩
  have RS1 := RS.same s1
  refine lc_list (K := K) (a := g) (xs := us) (fun i H2 => H2 R = some (.lst (((rs.take i).map rtxt).map V.str)) ∧ Same H1 H2) ⟨upd_same, same_new hR _⟩ (fun i H2 _ ⟨_, s⟩ => .inl (.inl (s _ _ hg))) ?_ ?_
  · rintro i v H2 hi ⟨h2, s2⟩
    obtain ⟨r, hri, T⟩ := RS1.get hi
    have il := (List.getElem?_eq_some_iff.mp hri).1
    refine ⟨rfl, ?_⟩
    refine ⟨_, rfl, v, r, rfl, T.same s2, ok r (List.mem_of_getElem? hri), fun H3 s3 => ?_⟩
    have tk : rs.take (i + 1) = rs.take i ++ [r] := by rw [List.take_add_one, hri]; rfl
    refine ⟨_, s3 _ _ h2, by rw [List.length_map, List.length_map, List.length_take]; omega, ?_, fun a o z => ?_⟩
    · rw [upd_same, tk, List.map_append, List.map_append]; rfl
    · rw [upd_ne (ne_of_none z hR)]
      exact s3 _ _ (s2 _ _ z)
  · rintro H2 ⟨h2, s2⟩
    rw [rl, List.take_length] at h2
    have sz := dtxt_len ok (by omega)
    have pos := dtxt_pos ok ne
    refine ⟨"\n", R, rs.map rtxt, rfl, rfl, .inl (.inl (.inl h2)), by rw [l_nl]; omega, ?_⟩
    have jl := StrLaws.join_length_le "\n" (rs.map rtxt)
    rw [l_nl] at jl
    have big2 : (400000 : Nat) ≤ sizeLine := by decide
    refine ⟨true, ⟨by rw [TL.join_eq]; omega, ?_⟩, iteT (q _ (s1.trans s2))⟩
    have pos : 1 ≤ (Txt.join "\n" (rs.map rtxt)).length := pos
    show true = (((Txt.join "\n" (rs.map rtxt)).length : Int) != 0)
    symm
    rw [bne_iff_ne]
    omega
end
end Rp

/-! a != b where the class says its own == and the two are equal. -/
namespace Rp
open PySem PySem.Spec PySem.W PyProof.Rows L2
section
variable {prog : Program} {w : World} {A : Around} {E : Value → Shared → Prop} {s : Shared} {K : Frag} {x C f : Addr} {ox : Obj} {od : Option Obj} {b tb : Value}
theorem bound_ne {M : Model} {args : List Value} {Q : Option Value → Shared → Prop} (X : K.In s.heap) (I : InstAt s.heap x ox C od) (hs : findIn K (.ref C) "__ne__" = some (some (.builtin "object.__ne__")))
    (h : wpAny M A (call (.builtin "object.__ne__") (.ref x :: args)) (fun v => Q (some v)) E s) : wpAny M A (callSpecialIfBound? (.ref x) "__ne__" args) Q E s := by
  simp only [callSpecialIfBound?, bindSpecialIfBound?]
  refine wpAny_holding (wpAny_bind (wpAny_bind (wpAny_bind (I.type.here ((looks_findIn X hs).here ?_)))))
  refine wpAny_bind (wpAny_askSetting (wpAny_ite ?_))
  have fin : wpAny M A (call (.builtin "object.__ne__") ([.ref x] ++ args) >>= fun v => pure (some v)) Q E s := wpAny_bind (wpAny_mono h (fun v s' k => wpAny_pure k) fun _ _ k => k)
  have bd := F.cmp_object.ne.bind (.ref x)
  split
  · refine wpAny_bind ?_
    rw [bd]
    exact wpAny_pure (wpAny_pure fin)
  · refine wpAny_tryCatch (wpAny_bind ?_)
    rw [bd]
    exact wpAny_pure (wpAny_pure fin)
theorem check_ne {M : Model} {Q : Unit → Shared → Prop} (X : K.In s.heap) (I : InstAt s.heap x ox C od) (sub : subIn K (.ref C) (.type "object") = some true) (h : Q () s) : wpAny M A (checkBuiltinCall "object.__ne__" ⟨[.ref x, b], []⟩) Q E s := by
  simp only [checkBuiltinCall, F.cmpKind_ne, F.cmpSplit_ne]
  refine wpAny_bind ?_
  unfold isInstance
  refine wpAny_bind (I.type.here ((looks_subIn X sub).here ?_))
  show wpAny M A (match Manifest.signature? "object.__ne__" with
    | some sig => Bind.checkArgs "object.__ne__" sig { pos := [Value.ref x, b] }
    | x => pure ()) Q E s
  have ar := F.cmpArgs_ne (.ref x) b
  cases hsig : Manifest.signature? "object.__ne__" with
  | none => exact wpAny_pure h
  | some sig =>
    simp only [argsOk, hsig] at ar
    show wpAny M A (Bind.checkArgs "object.__ne__" sig ⟨.ref x :: [b], []⟩) Q E s
    rw [show Bind.checkArgs "object.__ne__" sig ⟨.ref x :: [b], []⟩ = pure () from ar]
    exact wpAny_pure h
/-- what object's own != asks of the class's == -/
def NeBack (Q : Value → Shared → Prop) (v : Value) (s' : Shared) : Prop := v = .bool true ∧ Q (.bool false) s'
theorem ne_body {Q : Value → Shared → Prop} (X : K.In s.heap) (I : InstAt s.heap x ox C od) (hu : A.units < cLine) (hs : findIn K (.ref C) "__eq__" = some (some (.ref f))) (hf : isFn K (.ref f) = true)
    (h : wpAny (model prog w) A (call (.ref f) [.ref x, b]) (NeBack Q) E s) : wpAny (model prog w) A (Builtin.«object.__ne__» ⟨[.ref x, b], []⟩) (fun fin s' => match fin with | .done (.ret v) => Q v s' | _ => False) E s := by
  have k : wpAny (model prog w) A (callSpecialIfBound? (.ref x) "__eq__" [b]) (fun r s' => ∃ v, r = some v ∧ NeBack Q v s') E s := ifBound_K X I hs hf (wpAny_mono h (fun v s' hv => ⟨v, rfl, hv⟩) fun _ _ e => e)
  unfold Builtin.«object.__ne__»
  refine wpAny_bind ?_
  refine (show wpAny (model prog w) A (pure (Value.ref x, [b])) _ E s from wpAny_pure ?_)
  refine wpAny_bind (wpAny_cRoomFor hu ?_)
  refine wpAny_bind (wpAny_mono k (fun r s' z => ?_) fun _ _ e => e)
  obtain ⟨v, rfl, rfl, q⟩ := z
  refine wpAny_bind (wpAny_truthy_bool ?_)
  exact wpAny_pure q
theorem cmp_ne {Q : Value → Shared → Prop} {h₀ : Heap} {L : Addr} {m : Str → Option Value} (hu : A.units + 1 < cLine) (F0 : Fr h₀ L s.heap m) (X₀ : K.In h₀) (I : InstAt s.heap x ox C od) (hb : Looks (model prog w) s.heap (typeOf b) tb) (hn : notFirst K C tb = true)
    (hne : findIn K (.ref C) "__ne__" = some (some (.builtin "object.__ne__"))) (hob : subIn K (.ref C) (.type "object") = some true) (hs : findIn K (.ref C) "__eq__" = some (some (.ref f))) (hf : isFn K (.ref f) = true)
    (h : wpAny (model prog w) A.in1 (call (.ref f) [.ref x, b]) (NeBack Q) E s) : wpAny (model prog w) A (richCompare .NotEq (.ref x) b) Q E s := by
  have X := X₀.keeps F0.keep
  have hu0 : A.units < cLine := Nat.lt_of_succ_lt hu
  have one : wpAny (model prog w) A (tryCompare (.ref x) (cmpInfo .NotEq).2.1 b) (fun r s' => ∃ v, r = some v ∧ Q v s') E s := by
    show wpAny (model prog w) A (tryCompare (.ref x) "__ne__" b) _ E s
    unfold tryCompare
    refine wpAny_bind (bound_ne X I hne (wpAny_call (codeAny_call_builtin F.cmp_object.ne.plain F.cmpEntry_ne (check_ne X I hob ?_))))
    refine wpAny_mono (ne_body (Q := fun v s' => v = .bool false ∧ Q (.bool false) s') (A := A.in1) X I hu hs hf (wpAny_mono h (fun v s' z => ⟨z.1, rfl, z.2⟩) fun _ _ e => e)) (fun fin s' z => ?_) fun _ _ e => e
    cases fin with
    | again c => exact z.elim
    | done fl =>
      cases fl with
      | ret v =>
        obtain ⟨rfl, q⟩ := z
        exact wpAny_pure ⟨_, rfl, q⟩
      | _ => exact z.elim
  unfold richCompare
  simp only [oneThing_ref]
  refine wpAny_holding (wpAny_bind (wpAny_cRoomFor hu0 ?_))
  refine wpAny_bind (I.type.here (wpAny_bind (hb.here ?_)))
  split
  · rename_i q
    have e : subIn K tb (.ref C) = some false := by
      rcases Bool.or_eq_true_iff.mp hn with e | e
      · rw [beq_iff_eq.mp e] at q; simp at q
      · exact beq_iff_eq.mp e
    refine wpAny_bind ((looks_subIn X e).here ?_)
    simp only [Bool.false_eq_true, if_false]
    refine wpAny_bind (wpAny_mono one (fun r s' z => ?_) fun _ _ e => e)
    obtain ⟨v, rfl, hq⟩ := z
    exact wpAny_pure hq
  · refine wpAny_bind (wpAny_pure ?_)
    simp only [Bool.false_eq_true, if_false]
    refine wpAny_bind (wpAny_mono one (fun r s' z => ?_) fun _ _ e => e)
    obtain ⟨v, rfl, hq⟩ := z
    exact wpAny_pure hq
end
section
variable {X : Cx} {n : Nat}
/-- x != y where the class's own == says that they are -/
def rNeI (C : Addr) (R : Addr → Addr → Hp → Prop) : R2 := fun x y H Q => DIns C R x y H ∧ ∀ H', L2.Ext H H' → Q (.bl false) H'
theorem op_neI {CX : CXT} {C f : Addr} {fd : FuncData} {ps : List Str} {R : Addr → Addr → Hp → Prop} {E : XK} (F : FnOk X.prog X.w X.K X.mg X.base CX n f fd ps (spEq R))
    (hs : findIn X.K (.ref C) "__eq__" = some (some (.ref f))) (hf : isFn X.K (.ref f) = true) (hne : findIn X.K (.ref C) "__ne__" = some (some (.builtin "object.__ne__"))) (hob : subIn X.K (.ref C) (.type "object") = some true) (hb : Binds X.K fd ps []) (hx : Passes CX X E)
    (hr : Room (n + 1) X.A) : OpR X (compareOp .NotEq) (rNeI C R) := by
  intro pins s σ H x y u v Q I rx ry hq
  obtain ⟨d, q⟩ := hq
  obtain ⟨a, b, dx, dy, fs, gs, rfl, rfl, ha, hb', hr'⟩ := d
  cases rx
  cases ry
  obtain ⟨mA, J, _⟩ := ins_get I.hok ha
  obtain ⟨mB, J', _⟩ := ins_get I.hok hb'
  obtain ⟨od, J, _⟩ := J.look
  obtain ⟨od', J', _⟩ := J'.look
  obtain ⟨m, hF⟩ := I.fr
  show wpAny (model X.prog X.w) X.A (richCompare .NotEq (.ref a) (.ref b)) (EP X pins σ Q) X.xe s
  refine cmp_ne (tb := .ref C) ?_ hF I.ok.mod.kin J J'.type (by simp [PySem.W.notFirst]) hne hob hs hf ?_
  · have := hr.units
    omega
  · have hsp : spEq R [.ref a, .ref b] H (fun v H' => v = .bl true ∧ L2.Ext H H') E := ⟨a, b, rfl, hr', fun H' e => ⟨rfl, e⟩⟩
    have e0 : Env0 X.prog X.w X.K X.mg X.base X.A.in1 X.stack s H := by
      have e := I.env0
      exact ⟨e.frames, e.mod, e.bs, e.bsz, e.funs, e.frf, e.hok, e.bare⟩
    have hl := F.len _ _ _ _ hsp
    have r2 : Vals [V.ref a, V.ref b] [Value.ref a, Value.ref b] := .cons rfl (.cons rfl .nil)
    refine wpAny_call (codeAny_mono (F.run X.A.in1 X.stack s H ⟨[.ref a, .ref b], []⟩ [.ref a, .ref b] [.ref a, .ref b] _ E hr.in1 e0 (by
      have := hb s [.ref a, .ref b] I.kIn (by simpa using hl)
      simpa using this) r2 hsp) fun r s' hq => ?_)
    cases r with
    | error e => exact hx pins σ H s e s' I hq
    | ok fl =>
      cases fl with
      | ret w =>
        obtain ⟨z, H', I', rz, ez, ex⟩ := I.after hq
        subst ez
        cases rz
        exact ⟨rfl, .bl false, H', I', rfl, q H' ex⟩
      | next => exact False.elim hq
      | brk => exact False.elim hq
      | cont => exact False.elim hq
end
end Rp

/-! A try whose body never raises, whatever its clauses are. -/
namespace Rp
open PySem PySem.Spec PyProof.Rows L2
section
variable {X : Cx} {body : List Stmt} {h₀ : ExceptHandler} {hds : List ExceptHandler} {pos : Pos} {tb : TS}
theorem ps_try_never (hb : ∀ (pn : List (Addr × Obj)) (xe : Value → Shared → Prop), Takes (X.tr pn xe) (fun _ _ _ _ => False) → PassesOwn (model X.prog X.w) X.A X.env xe → PSs (X.tr pn xe) body tb) :
    PS X (.Try body (h₀ :: hds) [] [] pos) tb := by
  refine ⟨fun pins s σ H D I h => ?_⟩
  have ok := I.ok
  refine wpAny_Try_except ?_
  refine wpAny_mono ((hb (X.pn ++ pins) (fun e s₁ => wpAny (model X.prog X.w) X.A (noteFrame e X.env) (fun _ s₂ => wpAny (model X.prog X.w) X.A (setFlight e none) (fun _ s₃ =>
    wpAny (model X.prog X.w) X.A (handleBy e X.env (h₀ :: hds)) (SP X pins D) X.xe s₃) X.xe s₂) X.xe s₁) (fun u s' xx => ?_) PassesOwn.looking).run [] s σ H D (I.toTry _) h) (fun f s1 hsp => ?_) (fun e s1 he => he)
  · obtain ⟨a, B, sI, pins', σ', H', cls, d, rfl, J', nb, up, sky, na, os, ag, no⟩ := xx
    exact no.elim
  · cases f with
    | next =>
      obtain ⟨σ', H', J', q⟩ := hsp
      exact wpAny_execs_nil ⟨σ', H', J'.ofTry ok, q⟩
    | brk =>
      obtain ⟨σ', H', J', q⟩ := hsp
      exact ⟨σ', H', J'.ofTry ok, q⟩
    | cont =>
      obtain ⟨σ', H', J', q⟩ := hsp
      exact ⟨σ', H', J'.ofTry ok, q⟩
    | ret u =>
      obtain ⟨v, σ', H', J', r, q⟩ := hsp
      exact ⟨v, σ', H', J'.ofTry ok, r, q⟩
end
end Rp

set_option maxHeartbeats 8000000
/-! Definitions compared, twins; the rules of a text. -/
namespace Rp
open PySem PySem.Spec PyProof.Rows L2 TL StX
def ruD (r : Ru) : PyData := .tuple [atD r.hd, bdD r.bd]
theorem ru_dp {K : PySem.W.Frag} {H : Hp} {v : V} {r : Ru} (h : RuAt H v r) : Dp K H v (ruD r) := by
  obtain ⟨p, q, vh, xs, rfl, hp, A, hq, B⟩ := h
  exact .tup (.inl (.inl hp)) (.cons (at_dp A) (.cons (.tup (.inl (.inl hq)) (ats_dp B)) .nil))
theorem rus_dp {K : PySem.W.Frag} {H : Hp} : ∀ {us : List V} {rs : List Ru}, RusAt H us rs → DpAll K H us (rs.map ruD)
  | [], [], _ => .nil
  | _ :: _, _ :: _, h => .cons (ru_dp h.1) (rus_dp h.2)
theorem ru_lay {r : Ru} (ok : RuOk r) : (ruD r).canLay0 = true ∧ (ruD r).depth ≤ 55 := by
  have h := at_lay ok.hd.toAtOk
  have b := ats_lay ok.bd.ok
  refine ⟨?_, ?_⟩
  · show PyData.canLayAll0 [atD r.hd, .tuple (r.bd.map atD)] = true
    simp only [PyData.canLayAll0, PyData.canLay0, h.1, b.1]; rfl
  · show PyData.depthAll [atD r.hd, .tuple (r.bd.map atD)] + 1 ≤ 55
    simp only [PyData.depthAll, PyData.depth]; omega
theorem rus_lay : ∀ {rs : List Ru}, (∀ r ∈ rs, RuOk r) → PyData.canLayAll0 (rs.map ruD) = true ∧ PyData.depthAll (rs.map ruD) ≤ 55
  | [], _ => ⟨rfl, by simp [PyData.depthAll]⟩
  | r :: rs, h => by
    have a := ru_lay (h r (by simp))
    have b := rus_lay (rs := rs) fun u hu => h u (by simp [hu])
    simp only [List.map_cons, PyData.canLayAll0, PyData.depthAll, a.1, b.1]
    exact ⟨rfl, by omega⟩
theorem rus_shaped {rs : List Ru} (h : ∀ r ∈ rs, RuOk r) : SeqAt.shaped (.list (rs.map ruD)) = true := by
  have z := rus_lay h
  exact shaped_of z.1 (by show PyData.depthAll _ + 1 ≤ 64; omega)
abbrev sWithout : Stmt := inClass sDefs 7
abbrev sTwin : Stmt := inClass sDefs 8
/-- two that are told the same -/
def SameD (C : Addr) (a b : Addr) (H : Hp) : Prop := ∃ (lt lt' : Addr) (us us' : List V) (rs : List Ru) (kvs kvs' : KVs), DfAt C H a lt us kvs ∧ DfAt C H b lt' us' kvs' ∧ RusAt H us rs ∧ RusAt H us' rs ∧ (∀ r ∈ rs, RuOk r)
def spTwin (C : Addr) : Sp := fun vs H Q _ => ∃ (p lt : Addr) (us : List V) (rs : List Ru) (kvs : KVs), vs = [.ref p] ∧ DfAt C H p lt us kvs ∧ RusAt H us rs ∧ us.length ≤ 80 ∧ (∀ r ∈ rs, r.bd.length ≤ 9) ∧ clash [] (allAts rs) = none ∧
  ∀ (p' lt' : Addr) (H' : Hp), DfAt C H' p' lt' us (knows [] (allAts rs)) → Same H H' → Q (.ref p') H'
section
variable {P : Program} {w : World} {K : PySem.W.Frag} {mg : Str → Option Value} {base : Heap}
theorem scEqM : FnScope ["self", "other"] ["self", "other"] (defScope sEqM) := ⟨rfl, rfl, rfl, by decide +kernel, rfl, by decide +kernel, by decide +kernel⟩
theorem ok_eqm {f C : Addr} {fd : FuncData} (F : Fun K "__eq__" "Definitions.__eq__" sEqM f fd) (D : DfK K C) (IC : C8.InsC K C) (mD : mg "Definitions" = some (.ref C)) (mIsi : mg "isinstance" = none) : FnOk P w K mg base CX0 1 f fd ["self", "other"] (spEq (SameD C)) := by
  refine F.ok scEqM (fun vs H Q E h => ?_) (fun cdv A outer s H vs Q E hr h => ?_)
  · obtain ⟨a, b, rfl, _⟩ := h
    rfl
  obtain ⟨a, b, rfl, ⟨lt, lt', us, us', rs, kvs, kvs', ⟨dx, dt, ha, hla, _⟩, ⟨dx', dt', hb, hlb, _⟩, RS, RS', ok⟩, q⟩ := h
  refine ⟨_, pss_one (ps_ret (pe_and (pe_callB (id := "isinstance") (C8.call_isC IC) (by rfl) mIsi (by decide +kernel) (pa_cons (pv 1) (pa_cons (pe_glob (v := .ref C) (by rfl) mD rfl) pa_nil)))
    (pe_one (pe_cmpR (op_eqD hr.units) (pe_fld (pv 0) rfl) (pe_fld (pv 1) rfl) (nomark _))))), ?_⟩
  refine ⟨_, rfl, b, dx', _, rfl, hb, true, rfl, iteT ?_⟩
  refine ⟨_, rfl, a, C, dx, _, _, rfl, ha, D.cls, D.nT, dfF_told, _, rfl, b, C, dx', _, _, rfl, hb, D.cls, D.nT, dfF_told, ?_⟩
  have lay := rus_lay ok
  have rf : PyData.eqv (.list (rs.map ruD)) (.list (rs.map ruD)) = true := SeqAt.eqv_refl _ (show PyData.canLayAll0 _ = true from lay.1)
  refine ⟨.list (rs.map ruD), .list (rs.map ruD), .lst (.inl (.inl hla)) (rus_dp RS), .lst (.inl (.inl hlb)) (rus_dp RS'), rus_shaped ok, rus_shaped ok, ?_⟩
  rw [rf]
  exact q H L2.Ext.rfl'
theorem scTwin : FnScope ["self"] ["self"] (defScope sTwin) := ⟨rfl, rfl, rfl, by decide +kernel, rfl, by decide +kernel, by decide +kernel⟩
theorem passZ {X : Cx} : Passes (L2.CX P w) X E0 := fun _ _ _ _ _ _ _ h => by
  obtain ⟨_, _, _, _, _, _, _, _, _, _, _, _, h⟩ := h
  exact h.elim
theorem ok_twin {f C CC fI : Addr} {fd dI : FuncData} (F : Fun K "twin" "Definitions.twin" sTwin f fd) (D : DfK K C) (M : Mk K C fI) (mD : mg "Definitions" = some (.ref C))
    (GI : FnOk P w K mg base (L2.CX P w) 5 fI dI ["self", "rules"] (spDInit K C CC)) (bI : Binds K dI ["self", "rules"] []) : FnOk P w K mg base CX0 7 f fd ["self"] (spTwin C) := by
  refine F.ok scTwin (fun vs H Q E h => ?_) (fun cdv A outer s H vs Q E hr h => ?_)
  · obtain ⟨p, _, _, _, _, rfl, _⟩ := h
    rfl
  obtain ⟨p, lt, us, rs, kvs, rfl, ⟨dx, dt, hp, hl, hd⟩, RS, ul, rb, cn, q⟩ := h
  refine ⟨_, pss_one (ps_ret (pe_make M GI hr (by rfl) mD bI .nil passZ (pa_cons (pe_fld (pv 0) rfl) pa_nil))), ?_⟩
  refine ⟨_, rfl, p, C, dx, _, _, rfl, hp, D.cls, D.nT, dfF_told, fun x dn hx hdn ne => ?_⟩
  have sm : Same H (upd (upd H dn (.own x)) x (.ins C dn [])) := fun b o z => by
    rw [upd_ne (ne_of_none z hx), upd_ne (ne_of_none z hdn)]; exact z
  have hxm : (upd (upd H dn (.own x)) x (.ins C dn [])) x = some (.ins C dn []) := upd_same
  generalize upd (upd H dn (.own x)) x (.ins C dn []) = Hm at sm hxm ⊢
  have keep : ∀ H2, But x Hm H2 → Same H H2 := fun H2 o b u z => o _ _ (sm _ _ z) (ne_of_none z hx)
  refine ⟨x, lt, dn, us, rs, rfl, hxm, .inl (sm _ _ hl), RS.same sm, ul, rb, fun _ lt2 H2 hl2 D2 o2 => ⟨rfl, q x lt2 H2 D2 (keep H2 o2)⟩, fun y cy => ?_⟩
  rw [cn] at cy
  cases cy
end
end Rp

set_option maxHeartbeats 8000000
/-! definitions_in of the text of right rules. -/
namespace Rp
open PySem PySem.Spec PyProof.Rows L2 TL StX
theorem rtxt_head {r : Ru} (ok : RuOk r) : ∃ c q, tl (rtxt r) = c :: q ∧ 97 ≤ c := by
  have h : ∃ c q, tl (atxt r.hd) = c :: q ∧ 97 ≤ c := by
    rw [atxt_tl]
    have p := ok.hd.toAtOk.nm.pos
    have low := ok.hd.toAtOk.nm.low
    rw [len_tl] at p
    cases e : tl r.hd.nm with
    | nil => rw [e] at p; simp at p
    | cons c q => exact ⟨c, _, rfl, (low c (by rw [e]; simp)).1⟩
  obtain ⟨c, q, e, h97⟩ := h
  unfold rtxt
  split
  · exact ⟨c, q, e, h97⟩
  · refine ⟨c, q ++ tl (" if " : Str) ++ tl (Txt.join ", " (r.bd.map atxt)), ?_, h97⟩
    rw [tl_append, tl_append, e]; rfl
theorem dtxt_dash {rs : List Ru} (ok : ∀ r ∈ rs, RuOk r) (ne : rs ≠ []) : dtxt rs ≠ "-" := by
  intro e
  have sp := dtxt_split ok ne
  rw [e] at sp
  have s0 : Txt.split "-" "\n" = [("-" : Str)] := by decide +kernel
  rw [s0] at sp
  match rs, ne with
  | r :: rs, _ =>
    rw [List.map_cons] at sp
    injection sp with sp _
    obtain ⟨c, q, h, h97⟩ := rtxt_head (ok r (by simp))
    rw [← sp] at h
    have : tl ("-" : Str) = [45] := by decide +kernel
    rw [this] at h
    injection h with h _
    omega
theorem clash_take {rs : List Ru} (cn : clash [] (allAts rs) = none) (i : Nat) : clash [] (allAts (rs.take i)) = none := by
  cases e : clash [] (allAts (rs.take i)) with
  | none => rfl
  | some x =>
    have := (clash_more (as := allAts (rs.take i)) (bs := allAts (rs.drop i)) Kd.nil).2 x e
    rw [← allAts_parts, cn] at this
    cases this
theorem DfAt.same' {C : Addr} {H H' : Hp} {p lt : Addr} {us : List V} {kvs : KVs} (h : DfAt C H p lt us kvs) (s : Same H H') : DfAt C H' p lt us kvs := by
  obtain ⟨dx, dt, h1, h2, h3⟩ := h
  exact ⟨dx, dt, s _ _ h1, s _ _ h2, s _ _ h3⟩
theorem RusAt.snoc' {H : Hp} {v : V} {r : Ru} (hv : RuAt H v r) : ∀ {us : List V} {rs : List Ru}, RusAt H us rs → RusAt H (us ++ [v]) (rs ++ [r])
  | [], [], _ => ⟨hv, trivial⟩
  | _ :: _, _ :: _, h => ⟨h.1, RusAt.snoc' hv h.2⟩
def spDefsIn (C : Addr) : Sp := fun vs H Q _ => ∃ rs : List Ru, vs = [.str (dtxt rs)] ∧ rs ≠ [] ∧ rs.length ≤ 80 ∧ (∀ r ∈ rs, RuOk r) ∧ clash [] (allAts rs) = none ∧
  ∀ (p lt : Addr) (us : List V) (H' : Hp), DfAt C H' p lt us (knows [] (allAts rs)) → RusAt H' us rs → Same H H' → Q (.ref p) H'
abbrev NDI : List Str := ["text", "defs", "k", "row"]
section
variable {P : Program} {w : World} {K : PySem.W.Frag} {mg : Str → Option Value} {base : Heap}
theorem scDefsIn : FnScope NDI ["text"] (defScope sDefsIn) := ⟨rfl, rfl, rfl, by decide +kernel, rfl, by decide +kernel, by decide +kernel⟩
theorem ok_defsin {f C CC fI fT fR q0 : Addr} {fd dI dT dR : FuncData} (F : Fun K "definitions_in" "definitions_in" sDefsIn f fd) (D : DfK K C) (M : Mk K C fI) (mD : mg "Definitions" = some (.ref C))
    (GI : FnOk P w K mg base (L2.CX P w) 5 fI dI ["self", "rules"] (spDInit K C CC)) (bI : Binds K dI ["self", "rules"] [.ref q0]) (e0 : ∀ H' : Hp, SqT K H' q0 [])
    (GT : FnOk P w K mg base (L2.CX P w) 4 fT dT ["self", "rule"] (spTell C CC)) (mT : Meth K C "tell" fT) (bT : Binds K dT ["self", "rule"] [])
    (GR : FnOk P w K mg base CX0 9 fR dR ["text"] spRuleOr) (kR : PySem.W.keepIn K (.ref fR) = true) (bR : Binds K dR ["text"] []) (mR : mg "rule_in" = some (.ref fR)) (mEnum : mg "enumerate" = none) :
    FnOk P w K mg base CX0 10 f fd ["text"] (spDefsIn C) := by
  refine F.ok scDefsIn (fun vs H Q E h => ?_) (fun cdv A outer s H vs Q E hr h => ?_)
  · obtain ⟨rs, rfl, _⟩ := h
    rfl
  obtain ⟨rs, rfl, ne, rl, ok, cn, q⟩ := h
  have r4 : Room 4 _ := hr.mono (by decide)
  have r6 : Room 6 _ := hr.mono (by decide)
  refine ⟨_, pss_cons (ps_set (i := 1) scDefsIn.nd rfl (Or.inl rfl) (pe_make0 (dvs := [.ref q0]) M GI r6 (by rfl) mD bI (.cons rfl .nil) passZ))
    (pss_cons (ps_if (pt_cmpR op_eq (pv 0) pe_str (nomark _)) (pss_one (ps_ret (pv 1))) pss_nil)
    (pss_cons (ps_for PassesOwn.never rfl (pi_enum (by rfl) mEnum (pa_cons (pe_split (pv 0) pe_str) pa_nil)) (pg_tup (by rfl) (pgs_cons (pg_name (i := 2) scDefsIn.nd rfl (Or.inl rfl)) (pgs_cons (pg_name (i := 3) scDefsIn.nd rfl (Or.inl rfl)) pgs_nil)))
      (pss_one (ps_try_never (tb := tDrop (tMethW C "tell" (spTell C CC) (WE fun _ _ _ _ => False) (tVar 1) (tCons (tCall spRuleOr [] E0 (tCons (tVar 3) tNil)) tNil))) (fun pn xe tk _ => pss_one (ps_expr (by exact (pe_methW (pv 1) D.cls mT GT r4 bT (fun σ => passAt tk σ) (pa_cons (pe_call GR hr (by rfl) mR kR bR .nil pass0 (pa_cons (pv 3) pa_nil)) pa_nil))))))))
    (pss_one (ps_ret (pv 1))))), ?_⟩
  have big : (400000 : Nat) ≤ sizeLine := by decide
  intro x dn hx hdn nx
  have sm : Same H (upd (upd H dn (.own x)) x (.ins C dn [])) := fun b o z => by
    rw [upd_ne (ne_of_none z hx), upd_ne (ne_of_none z hdn)]; exact z
  have hxm : (upd (upd H dn (.own x)) x (.ins C dn [])) x = some (.ins C dn []) := upd_same
  generalize upd (upd H dn (.own x)) x (.ins C dn []) = Hm at sm hxm ⊢
  refine ⟨x, q0, dn, [], [], rfl, hxm, .inr (.inr ⟨rfl, e0⟩), trivial, by simp, by simp, fun _ lt H2 hlt0 D2 o2 => ⟨rfl, ?_⟩, fun y cy => by cases cy⟩
  have s2 : Same H H2 := fun b u z => o2 _ _ (sm _ _ z) (ne_of_none z hx)
  refine ⟨_, rfl, rfl, false, congrArg V.bl (decide_eq_false fun z => dtxt_dash ok ne (V.str.inj z)), iteF ?_⟩
  have sz := dtxt_len ok rl
  have jl := StrLaws.join_length_le "\n" (rs.map rtxt)
  rw [l_nl, ← TL.join_eq] at jl
  have jl : (dtxt rs).length ≤ 300000 := Nat.le_trans jl sz
  refine ⟨_, rfl, ⟨_, rfl⟩, dtxt rs, "\n", rfl, rfl, by decide +kernel, by omega, fun l hl => ?_⟩
  rw [dtxt_split ok ne]
  have s3 := same_new hl (.lst ((rs.map rtxt).map V.str))
  have hl3 : (upd H2 l (.lst ((rs.map rtxt).map V.str))) l = some (.lst ((rs.map rtxt).map V.str)) := upd_same
  have D3 := D2.same' s3
  have lx : l ≠ x := by
    obtain ⟨_, _, h1, _⟩ := D2
    exact (ne_of_none h1 hl).symm
  have llt : l ≠ lt := by
    obtain ⟨_, _, _, h1, _⟩ := D2
    exact (ne_of_none h1 hl).symm
  have s03 := s2.trans s3
  have none0 : H lt = none := by
    cases z : H lt with
    | none => rfl
    | some u => rw [sm _ _ z] at hlt0; cases hlt0
  generalize upd H2 l (.lst ((rs.map rtxt).map V.str)) = H3 at hl3 D3 s03 ⊢
  refine ⟨l, _, rfl, .inl (.inl hl3), for_it walk_enum (fun i σ H6 => ∃ (y2 y3 : Option V) (us : List V), σ = [some (.str (dtxt rs)), some (.ref x), y2, y3] ∧ DfAt C H6 x lt us (knows [] (allAts (rs.take i))) ∧ RusAt H6 us (rs.take i) ∧ H6 l = some (.lst ((rs.map rtxt).map V.str)) ∧ Same H H6)
    ⟨_, _, [], rfl, D3, trivial, hl3, s03⟩ (fun i σ H6 _ ⟨_, _, _, _, _, _, h, _⟩ => .inl (.inl h)) ?_ ?_⟩
  · rintro i y σ H6 H7 hi ⟨y2, y3, us, rfl, D6, R6, hl6, s6⟩ ⟨T, u, v, rfl, hT, rfl, hu, hv⟩
    obtain rfl := Option.some.inj hu
    have hv : ((rs.map rtxt).map V.str)[i]? = some v := hv
    rw [List.getElem?_map, List.getElem?_map] at hv
    obtain ⟨r, hr1, rfl⟩ : ∃ r, rs[i]? = some r ∧ v = .str (rtxt r) := by
      cases e : rs[i]? with
      | none => rw [e] at hv; cases hv
      | some r => rw [e] at hv; exact ⟨r, rfl, by simpa using hv.symm⟩
    have rm := List.mem_of_getElem? hr1
    have il := (List.getElem?_eq_some_iff.mp hr1).1
    have okr := ok r rm
    have sT := same_new hT (.tup [V.int (i : Nat), .str (rtxt r)])
    have hT7 : (upd H6 T (.tup [V.int (i : Nat), .str (rtxt r)])) T = some (.tup [V.int (i : Nat), .str (rtxt r)]) := upd_same
    have D7 := D6.same' sT
    have R7 := R6.same sT
    have hl7 := sT _ _ hl6
    have s7 := s6.trans sT
    generalize upd H6 T (.tup [V.int (i : Nat), .str (rtxt r)]) = H7 at hT7 D7 R7 hl7 s7 ⊢
    refine ⟨T, _, rfl, .inl (.inl hT7), rfl, _, _, rfl, _, _, rfl, rfl, ?_⟩
    obtain ⟨dx7, dt7, hp7, hlt7, hdt7⟩ := id D7
    refine ⟨_, rfl, x, dx7, _, rfl, hp7, dfF_no (by decide +kernel) (by decide +kernel), _, rfl, r, rfl, okr, fun v8 H8 RA s8 => ?_⟩
    have D8 := D7.same' s8
    have R8 := R7.same s8
    have ul := R8.len
    rw [List.length_take] at ul
    have cl := clash_take cn i
    have cl1 := clash_take cn (i + 1)
    have am := allAts_more hr1
    obtain ⟨c1, _⟩ := clash_more (as := allAts (rs.take i)) (bs := r.hd :: r.bd) Kd.nil
    have ka : knows [] (allAts (rs.take (i + 1))) = knows (knows [] (allAts (rs.take i))) (r.hd :: r.bd) := by rw [am]; unfold knows; rw [List.foldl_append]
    have le1 := knows_le (as := allAts (rs.take i)) (kvs := [])
    have bd9 : ∀ r ∈ rs, r.bd.length ≤ 9 := fun r hr => by have := (ok r hr).bd.few; omega
    have le2 := allAts_le (rs := rs.take i) fun r hr => bd9 r (List.mem_of_mem_take hr)
    rw [List.length_take] at le2
    have cr : clash (knows [] (allAts (rs.take i))) (r.hd :: r.bd) = none := by rw [← c1 cl, ← am]; exact cl1
    refine ⟨x, lt, us, rs.take i, _, v8, r, rfl, D8, R8, by omega, knows_ok Kd.nil cl, by simp at le1; omega, bd9 r rm, RA, fun _ H9 D9 o9 => ?_, fun z cz => by rw [cr] at cz; cases cz⟩
    have tk : rs.take (i + 1) = rs.take i ++ [r] := by rw [List.take_add_one, hr1]; rfl
    have tups : ∀ a zs, H8 a = some (.tup zs) → H9 a = some (.tup zs) := fun a zs z => by
      obtain ⟨_, _, h1, h2, _⟩ := D8
      exact o9 _ _ z (ne_of z h1 (by intro e; cases e)) (ne_of z h2 (by intro e; cases e))
    have RA9 : RuAt H9 v8 r := RA.mono tups
    refine ⟨_, _, us ++ [v8], rfl, by rw [ka]; exact D9, by rw [tk]; exact RusAt.snoc' RA9 (R8.mono tups), o9 _ _ (s8 _ _ hl7) lx llt, fun a o z => ?_⟩
    exact o9 _ _ (s8 _ _ (s7 _ _ z)) (ne_of_none z hx) (ne_of_none z none0)
  · rintro σ H6 ⟨y2, y3, us, rfl, D6, R6, hl6, s6⟩
    rw [List.length_map, List.length_map, List.take_length] at D6 R6
    exact ⟨_, rfl, q x lt us H6 D6 R6 s6⟩
end
end Rp

set_option maxHeartbeats 8000000
/-! Definitions without one of their rules; what is refused. -/
namespace Rp
open PySem PySem.Spec PyProof.Rows L2 TL StX
theorem RusAt.drop' {H : Hp} : ∀ {us : List V} {rs : List Ru} (n : Nat), RusAt H us rs → RusAt H (us.drop n) (rs.drop n)
  | _, _, 0, h => h
  | [], [], n + 1, h => by simpa using h
  | _ :: _, _ :: _, n + 1, h => by simpa using RusAt.drop' n h.2
theorem RusAt.app' {H : Hp} : ∀ {us vs : List V} {rs ss : List Ru}, RusAt H us rs → RusAt H vs ss → RusAt H (us ++ vs) (rs ++ ss)
  | [], _, [], _, _, h => h
  | _ :: _, _, _ :: _, _, h, h' => ⟨h.1, RusAt.app' h.2 h'⟩
def less {α : Type} (k : Nat) (xs : List α) : List α := xs.take k ++ xs.drop (k + 1)
def spWithout (C CN : Addr) : Sp := fun vs H Q E => ∃ (p lt : Addr) (us : List V) (rs : List Ru) (kvs : KVs) (k : Nat), vs = [.ref p, .int k] ∧ DfAt C H p lt us kvs ∧ RusAt H us rs ∧ us.length ≤ 80 ∧ (∀ r ∈ rs, r.bd.length ≤ 9) ∧
  (k < us.length → clash [] (allAts (less k rs)) = none ∧ ∀ (p' lt' : Addr) (H' : Hp), DfAt C H' p' lt' (less k us) (knows [] (allAts (less k rs))) → Same H H' → Q (.ref p') H') ∧
  (us.length ≤ k → ∀ (d : Addr) (fs : List (Str × V)) (H' : Hp), H d = none → H' d = some (.xd fs) → fs.lookup ("what" : Str) = some (.int k) → Same H H' → E (.ref CN) (some d) H')
section
variable {P : Program} {w : World} {K : PySem.W.Frag} {mg : Str → Option Value} {base : Heap}
theorem scWithout : FnScope ["self", "place"] ["self", "place"] (defScope sWithout) := ⟨rfl, rfl, rfl, by decide +kernel, rfl, by decide +kernel, by decide +kernel⟩
theorem ok_without {f C CC CN fI fX : Addr} {fd dI dX : FuncData} (F : Fun K "without" "Definitions.without" sWithout f fd) (D : DfK K C) (M : Mk K C fI) (mD : mg "Definitions" = some (.ref C))
    (EK : ErrK K fX CN) (GX : FnOk P w K mg base CX0 1 fX dX ["self", "what"] (spXInit K)) (bX : Binds K dX ["self", "what"] []) (mCN : mg "NoRule" = some (.ref CN))
    (GI : FnOk P w K mg base (L2.CX P w) 5 fI dI ["self", "rules"] (spDInit K C CC)) (bI : Binds K dI ["self", "rules"] []) (mLen : mg "len" = none) : FnOk P w K mg base (L2.CX P w) 7 f fd ["self", "place"] (spWithout C CN) := by
  refine F.okX scWithout (fun vs H Q E h => ?_) (fun cdv A outer s H vs Q E hr h => ?_)
  · obtain ⟨p, _, _, _, _, k, rfl, _⟩ := h
    rfl
  obtain ⟨p, lt, us, rs, kvs, k, rfl, ⟨dx, dt, hp, hl, hd⟩, RS, ul, rb, qN, qE⟩ := h
  have r2 : Room 2 _ := hr.mono (by decide)
  refine ⟨_, pss_cons (ps_if (pt_not (pt_chain op_le op_lt pe_int (pv 1) (pe_callB call_len_seq (by rfl) mLen PySem.boot_len (pa_cons (pe_fld (pv 0) rfl) pa_nil)))) (pss_one (ps_raise rfl (takes_of rfl rfl rfl rfl) (pmk_oex EK.oex EK.ini EK.ty GX r2 bX .nil pass0 (by rfl) mCN (pa_cons (pv 1) pa_nil)))) pss_nil)
    (pss_one (ps_ret (pe_make M GI hr (by rfl) mD bI .nil passZ (pa_cons (pe_op op_cat (pe_slice sl_list (pe_fld (pv 0) rfl) po_none (po_some (pv 1))) (pe_slice sl_list (pe_fld (pv 0) rfl) (po_some (pe_op op_add (pv 1) pe_int)) po_none)) pa_nil)))), ?_⟩
  have big : (10000 : Nat) ≤ sizeLine := by decide
  refine ⟨_, rfl, _, _, rfl, rfl, true, congrArg V.bl (decide_eq_true (by omega)), iteT ?_⟩
  refine ⟨_, rfl, p, C, dx, _, _, rfl, hp, D.cls, D.nT, dfF_told, lt, us, rfl, .inl (.inl (.inl hl)), _, _, rfl, rfl, decide ((k : Int) < (us.length : Nat)), rfl, ?_⟩
  by_cases kl : k < us.length
  · rw [decide_eq_true (by omega)]
    refine iteF ?_
    obtain ⟨cn, qN⟩ := qN kl
    refine ⟨_, rfl, p, C, dx, _, _, rfl, hp, D.cls, D.nT, dfF_told, _, rfl, _, rfl, lt, _, rfl, .inl (.inl hl), fun g hg => ?_⟩
    rw [cut_to]
    have s1 := same_new hg (.lst (us.take k))
    have hg1 : (upd H g (.lst (us.take k))) g = some (.lst (us.take k)) := upd_same
    have hp1 := s1 _ _ hp
    have hl1 := s1 _ _ hl
    generalize upd H g (.lst (us.take k)) = H1 at s1 hg1 hp1 hl1 ⊢
    refine ⟨_, rfl, p, C, dx, _, _, rfl, hp1, D.cls, D.nT, dfF_told, _, rfl, _, _, rfl, rfl, _, rfl, lt, _, rfl, .inl (.inl hl1), fun g2 hg2 => ?_⟩
    rw [cut_from (i := k + 1) (by omega)]
    have s2 := same_new hg2 (.lst (us.drop (k + 1)))
    have hg22 : (upd H1 g2 (.lst (us.drop (k + 1)))) g2 = some (.lst (us.drop (k + 1))) := upd_same
    have hg12 := s2 _ _ hg1
    have s12 := s1.trans s2
    generalize upd H1 g2 (.lst (us.drop (k + 1))) = H2 at hg22 hg12 s12 ⊢
    refine ⟨g, g2, _, _, rfl, rfl, hg12, hg22, by rw [List.length_take, List.length_drop]; omega, fun t ht => ?_⟩
    have s3 := same_new ht (.lst (us.take k ++ us.drop (k + 1)))
    have ht3 : (upd H2 t (.lst (us.take k ++ us.drop (k + 1)))) t = some (.lst (less k us)) := upd_same
    have s13 := s12.trans s3
    generalize upd H2 t (.lst (us.take k ++ us.drop (k + 1))) = H3 at ht3 s13 ⊢
    intro x dn hx hdn nx
    have sm : Same H3 (upd (upd H3 dn (.own x)) x (.ins C dn [])) := fun b o z => by
      rw [upd_ne (ne_of_none z hx), upd_ne (ne_of_none z hdn)]; exact z
    have hxm : (upd (upd H3 dn (.own x)) x (.ins C dn [])) x = some (.ins C dn []) := upd_same
    generalize upd (upd H3 dn (.own x)) x (.ins C dn []) = Hm at sm hxm ⊢
    have keep : ∀ H4, But x Hm H4 → Same H H4 := fun H4 o b u z => o _ _ (sm _ _ (s13 _ _ z)) (ne_of_none (s13 _ _ z) hx)
    have RSm : RusAt Hm (less k us) (less k rs) := ((RS.take k).app' (RS.drop' (k + 1))).same (s13.trans sm)
    have rb2 : ∀ r ∈ less k rs, r.bd.length ≤ 9 := fun r hr => by
      rcases List.mem_append.mp hr with h | h
      · exact rb r (List.mem_of_mem_take h)
      · exact rb r (List.mem_of_mem_drop h)
    refine ⟨x, t, dn, less k us, less k rs, rfl, hxm, .inl (sm _ _ ht3), RSm, by unfold less; rw [List.length_append, List.length_take, List.length_drop]; omega, rb2, fun _ lt2 H4 hl2 D2 o2 => ⟨rfl, qN x lt2 H4 D2 (keep H4 o2)⟩, fun y cy => ?_⟩
    rw [cn] at cy
    cases cy
  · rw [decide_eq_false (by omega)]
    refine iteT ?_
    refine ⟨_, rfl, by simp, fun a ha => ?_⟩
    refine ⟨a, CN, .int k, rfl, EK.oex, EK.wh, upd_same, fun dd H' hd' ne e' => ?_⟩
    have hd4 : H dd = none := by rw [upd_ne ne] at hd'; exact hd'
    subst e'
    refine ⟨rfl, dd, [("what", .int k)], upd_same, by rw [upd_ne ne]; exact upd_same, hd4, qE (by omega) dd [("what", .int k)] _ hd4 upd_same (by simp) fun b o z => ?_⟩
    have nb : b ≠ a := ne_of_none z ha
    have nd : b ≠ dd := ne_of_none z hd4
    rw [upd_ne nd, del_ne nb, upd_ne nb, upd_ne nd, upd_ne nb]
    exact z
end
end Rp

/-! In an except suite: the exception asked for its kind, read, whatever its class. -/
namespace Rp
open PySem PySem.Spec PyProof.Rows L2
def rIsEg (K : PySem.W.Frag) (a : Addr) (cls : Value) (d : Option Addr) : List V → Hp → VK → Prop := fun xs H Q => ∃ (D dd : Addr) (fs : List (Str × V)) (c : V) (cv : Value) (b : Bool), xs = [.ref a, c] ∧ cls = .ref D ∧ d = some dd ∧ H dd = some (.xd fs) ∧ ExcC K D ∧ ClsV c cv ∧ PySem.W.kitOne K (.ref D) cv = some b ∧ Q (.bl b) H
theorem call_isEg {X : Cx} {a : Addr} {cls : Value} {d : Option Addr} {oe : Obj} {pn : List (Addr × Obj)} (hz : Zc cls d oe) (hf : ∃ vs, oe.data = .fields vs) : CallR (X.suite a ((a, oe) :: pn)) (.builtin "isinstance") (rIsEg X.K a cls d) := by
  intro pins s σ H xs us Q I r h
  obtain ⟨D, dd, fs, c, cv, b, rfl, rfl, rfl, h2, E, k, e, q⟩ := h
  obtain ⟨u1, u2, rfl, r1, r2⟩ := vals2 r
  have e2 := k.eq r2
  subst e2
  cases (show u1 = Value.ref a from r1)
  obtain ⟨hget, _⟩ := I.pin (a, oe) (List.mem_append.mpr (.inl List.mem_cons_self))
  obtain ⟨vs, hv⟩ := hf
  have hx : ObjOk X.prog X.w H s.heap dd (.xd fs) := I.hok dd _ h2
  obtain ⟨mA, hns, hr⟩ := hx
  obtain ⟨od, ho, hl⟩ := lookIn_ns hns
  have J : PySem.W.InstAt s.heap a oe D (some od) := ⟨hget, hz.1, by unfold PySem.W.notCls; rw [hv] <;> rfl, by rw [hz.2]; exact ho⟩
  have some_ : (PySem.W.clsIn X.K D).isSome = true := by
    obtain ⟨cd, hc, _⟩ := PySem.W.any_some E.hd
    rw [hc]; rfl
  exact PySem.W.kia_one (PySem.W.kitx_exc some_ E.hg E.hk E.hs E.ha E.hn E.ht E.hm) I.kIn J e (fun z => nomatch z) fun tk => ⟨.bl b, H, I.tok tk, rfl, q⟩
def tXfG (K : PySem.W.Frag) (a : Addr) (cls : Value) (d : Option Addr) (f : Str) (te : TE) : TE := fun σ H Q => ∃ C, XfC K C ∧ PySem.W.findIn K (.ref C) f = some none ∧ tXf a cls d C f te σ H Q
theorem pe_xfG {X : Cx} {a : Addr} {oe : Obj} {cls : Value} {d : Option Addr} {pn : List (Addr × Obj)} {e : Expr} {te : TE} {pos : Pos} {n : Str}
    (hz : Zc cls d oe) (hf : ∃ vs, oe.data = .fields vs) (he : PE (X.suite a ((a, oe) :: pn)) e te) (hb : attributeBase e n X.env (eval e X.env) = eval e X.env := by rfl) :
    PE (X.suite a ((a, oe) :: pn)) (.Attribute e n pos) (tXfG X.K a cls d n te) :=
  ⟨fun pins s σ H Q I ⟨_, T, hno, h⟩ => (pe_xf (pos := pos) T hno hz hf he hb).run pins s σ H Q I h⟩
end Rp

set_option maxHeartbeats 8000000
/-! What the law has refused. -/
namespace Rp
open PySem PySem.Spec PyProof.Rows L2 TL StX
/-- the refusals' classes -/
structure ErrR (K : PySem.W.Frag) (mg : Str → Option Value) (CE CC CN : Addr) : Prop where
  mE : mg "RingError" = some (.ref CE)
  mC : mg "Clash" = some (.ref CC)
  mN : mg "NoRule" = some (.ref CN)
  xC : PySem.W.exmOne K (.ref CC) (.ref CE) = some true
  xN : PySem.W.exmOne K (.ref CN) (.ref CE) = some true
  kC : PySem.W.kitOne K (.ref CC) (.ref CC) = some true
  kN : PySem.W.kitOne K (.ref CN) (.ref CN) = some true
  eC : ExcC K CC
  eN : ExcC K CN
  fC : XfC K CC
  fN : XfC K CN
  wC : PySem.W.findIn K (.ref CC) "what" = some none
  wN : PySem.W.findIn K (.ref CN) "what" = some none
def badR (x : Str) : Ru := ⟨⟨x, [.v 0, .v 1]⟩, []⟩
def spRefused (C : Addr) : Sp := fun vs H Q _ => ∃ (p lt : Addr) (us : List V) (rs : List Ru) (kvs : KVs) (x : Str) (k : Int), vs = [.ref p, .str x, .int k] ∧ DfAt C H p lt us kvs ∧ RusAt H us rs ∧ us.length ≤ 3 ∧ (∀ r ∈ rs, r.bd.length ≤ 9) ∧ Kd kvs ∧ kvs.length ≤ 900 ∧ clash kvs ((badR x).hd :: (badR x).bd) = some x ∧
  ∀ (q : Addr) (H' : Hp), H' q = some (.lst [.bl true, if k = 0 then .str x else .int 3]) → Same H H' → Q (.ref q) H'
abbrev NRf : List Str := ["_law_made", "_law_one", "_law_way", "_law_caught", "error"]
def tbRf (K : PySem.W.Frag) (C CC CN : Addr) (W : WX) : TS := tIfS (tTest (tOp rEq (tVar 2) (tC (.int 0))))
  (tDrop (tMethKW C "tell" (spTell C CC) gself (WE W) (tVar 0) (tCons (tTup (tCons (tTup (tCons (tVar 1) (tCons (tC (.int 0)) (tCons (tC (.int 1)) tNil)))) (tCons (tTup tNil) tNil))) tNil)))
  (tDrop (tMethKW C "without" (spWithout C CN) gself (WE W) (tVar 0) (tCons (tC (.int 3)) tNil)))
def tsRf (K : PySem.W.Frag) (CC CN a : Addr) (cls : Value) (d : Option Addr) : TS := tAsg (tLst (tCons (tIf (tTest (tOp rEq (tVar 2) (tC (.int 0)))) (tCB (rIsEg K a cls d) (tCons (tVar 4) (tCons (tC (.ref CC)) tNil))) (tCB (rIsEg K a cls d) (tCons (tVar 4) (tCons (tC (.ref CN)) tNil))))
  (tCons (tXfG K a cls d "what" (tVar 4)) tNil))) (gName 3)
section
variable {P : Program} {w : World} {K : PySem.W.Frag} {mg : Str → Option Value} {base : Heap}
theorem scRefused : FnScope NRf ["_law_made", "_law_one", "_law_way"] (defScope sRefused) := ⟨rfl, rfl, rfl, by decide +kernel, rfl, by decide +kernel, by decide +kernel⟩
theorem ok_refused {f C CE CC CN fT fW : Addr} {fd dT dW : FuncData} (F : Fun K "_law_refused" "_law_refused" sRefused f fd) (D : DfK K C) (G : ErrR K mg CE CC CN)
    (GT : FnOk P w K mg base (L2.CX P w) 4 fT dT ["self", "rule"] (spTell C CC)) (mT : Meth K C "tell" fT) (bT : KBinds K dT ["self", "rule"] ["rule"] gself gself)
    (GW : FnOk P w K mg base (L2.CX P w) 7 fW dW ["self", "place"] (spWithout C CN)) (mW : Meth K C "without" fW) (bW : KBinds K dW ["self", "place"] ["place"] gself gself) (mIsi : mg "isinstance" = none) :
    FnOk P w K mg base CX0 8 f fd ["_law_made", "_law_one", "_law_way"] (spRefused C) := by
  refine F.ok scRefused (fun vs H Q E h => ?_) (fun cdv A outer s H vs Q E hr h => ?_)
  · obtain ⟨p, _, _, _, _, x, k, rfl, _⟩ := h
    rfl
  obtain ⟨p, lt, us, rs, kvs, x, k, rfl, DA, RS, ul, rb, kd, kl, cx, q⟩ := h
  have r4 : Room 4 _ := hr.mono (by decide)
  refine ⟨_, pss_cons (ps_set (i := 3) scRefused.nd rfl (Or.inl rfl) (pe_lst pa_nil))
    (pss_cons (ps_try_keep (i := 4) (tb := tbRf K C CC CN) (ts := tsRf K CC CN) rfl rfl scRefused.nd rfl rfl ⟨rfl, by decide, Or.inl G.mE⟩
      (fun W pn xe tk _ => pss_one (ps_if (pt_cmpR op_eq (pv 2) pe_int (nomark _))
        (pss_one (ps_expr (by exact (pe_methKW (pv 0) D.cls mT GT r4 bT (fun σ => passAt tk σ) (pk_cons (pe_tup (pa_cons (pe_tup (pa_cons (pv 1) (pa_cons pe_int (pa_cons pe_int pa_nil)))) (pa_cons (pe_tup pa_nil) pa_nil))) pk_nil)))))
        (pss_one (ps_expr (by exact (pe_methKW (pv 0) D.cls mW GW hr bW (fun σ => passAt tk σ) (pk_cons pe_int pk_nil)))))))
      (fun a oe cls d pn hz hf => pss_one (ps_set (i := 3) scRefused.nd rfl (Or.inl rfl) (pe_lst (pa_cons (pe_ifExp (pt_cmpR op_eq (pv 2) pe_int (nomark _))
          (pe_callB (id := "isinstance") (call_isEg hz hf) (by rfl) mIsi (by decide +kernel) (pa_cons (pv 4) (pa_cons (pe_glob (v := .ref CC) rfl G.mC rfl) pa_nil)))
          (pe_callB (id := "isinstance") (call_isEg hz hf) (by rfl) mIsi (by decide +kernel) (pa_cons (pv 4) (pa_cons (pe_glob (v := .ref CN) rfl G.mN rfl) pa_nil)))) (pa_cons (pe_xfG hz hf (pv 4)) pa_nil))))))
    (pss_one (ps_ret (pv 3)))), ?_⟩
  have big : (10000 : Nat) ≤ sizeLine := by decide
  refine ⟨(by show 0 ≤ sizeLine; decide), fun c0 hc0 => ?_⟩
  have s1 := same_new hc0 (.lst ([] : List V))
  have D1 := DA.same' s1
  have R1 := RS.same s1
  generalize upd H c0 (.lst ([] : List V)) = H1 at s1 D1 R1 ⊢
  obtain ⟨dx, dt, hp, hlt, hdt⟩ := id D1
  show tbRf K C CC CN _ _ _ H1
  unfold tbRf
  refine ⟨_, rfl, rfl, decide (V.int k = V.int 0), rfl, ?_⟩
  by_cases k0 : k = 0
  · subst k0
    rw [decide_eq_true (by rfl)]
    refine iteT ⟨_, rfl, p, dx, _, rfl, hp, dfF_no (by decide +kernel) (by decide +kernel), ?_⟩
    refine ⟨_, rfl, (by show 3 ≤ sizeLine; decide), fun t1 ht1 => ⟨(by show 0 ≤ sizeLine; decide), fun t2 ht2 => ⟨(by show 2 ≤ sizeLine; decide), fun t3 ht3 => ?_⟩⟩⟩
    have s2 := same_new ht1 (.tup [V.str x, .int 0, .int 1])
    have h1 : (upd H1 t1 (.tup [V.str x, .int 0, .int 1])) t1 = some (.tup [V.str x, .int 0, .int 1]) := upd_same
    have s3 := same_new ht2 (.tup ([] : List V))
    have h2 : (upd (upd H1 t1 (.tup [V.str x, .int 0, .int 1])) t2 (.tup ([] : List V))) t2 = some (.tup []) := upd_same
    have s4 := same_new ht3 (.tup [V.ref t1, .ref t2])
    have h3 : (upd (upd (upd H1 t1 (.tup [V.str x, .int 0, .int 1])) t2 (.tup ([] : List V))) t3 (.tup [V.ref t1, .ref t2])) t3 = some (.tup [V.ref t1, .ref t2]) := upd_same
    have h14 := s4 _ _ (s3 _ _ h1)
    have h24 := s4 _ _ h2
    have s24 := s2.trans (s3.trans s4)
    generalize upd (upd (upd H1 t1 (.tup [V.str x, .int 0, .int 1])) t2 (.tup ([] : List V))) t3 (.tup [V.ref t1, .ref t2]) = H4 at h3 h14 h24 s24 ⊢
    have RA : RuAt H4 (.ref t3) (badR x) := ⟨t3, t2, .ref t1, [], rfl, h3, ⟨t1, [.int 0, .int 1], rfl, h14, .v 0, .v 1, trivial⟩, h24, trivial⟩
    refine ⟨p, lt, us, rs, kvs, .ref t3, badR x, rfl, D1.same' s24, R1.same s24, by omega, kd, kl, by simp [badR], RA, fun cn => (by rw [cx] at cn; cases cn), fun y cy d fs H5 hd h5 hl s5 => ?_⟩
    have e := cx.symm.trans cy
    obtain rfl : x = y := Option.some.inj e
    refine ⟨G.xC, fun a ha => ?_⟩
    unfold tsRf
    refine ⟨_, rfl, rfl, true, rfl, iteT ⟨_, rfl, CC, d, fs, .ref CC, .ref CC, true, rfl, rfl, rfl, h5, G.eC, .own CC, G.kC, ?_⟩⟩
    refine ⟨CC, G.fC, G.wC, _, rfl, rfl, rfl, d, fs, .str x, rfl, h5, hl, (by show 2 ≤ sizeLine; decide), fun g hg ha' => ?_⟩
    have s6 := same_new hg (.lst [V.bl true, .str x])
    have s7 := same_new ha' (exg a (.ref CC) (some d))
    exact ⟨_, rfl, q g _ (s7 _ _ upd_same) (s1.trans (s24.trans (s5.trans (s6.trans s7))))⟩
  · rw [decide_eq_false (fun z => k0 (by injection z))]
    refine iteF ⟨_, rfl, p, dx, _, rfl, hp, dfF_no (by decide +kernel) (by decide +kernel), ?_⟩
    refine ⟨p, lt, us, rs, kvs, 3, rfl, D1, R1, by omega, rb, fun lt3 => (by omega), fun _ d fs H5 hd h5 hl s5 => ?_⟩
    refine ⟨G.xN, fun a ha => ?_⟩
    unfold tsRf
    refine ⟨_, rfl, rfl, false, congrArg V.bl (decide_eq_false (fun z => k0 (by injection z))), iteF ⟨_, rfl, CN, d, fs, .ref CN, .ref CN, true, rfl, rfl, rfl, h5, G.eN, .own CN, G.kN, ?_⟩⟩
    refine ⟨CN, G.fN, G.wN, _, rfl, rfl, rfl, d, fs, .int 3, rfl, h5, hl, (by show 2 ≤ sizeLine; decide), fun g hg ha' => ?_⟩
    have s6 := same_new hg (.lst [V.bl true, .int 3])
    have s7 := same_new ha' (exg a (.ref CN) (some d))
    rw [if_neg k0] at q
    exact ⟨_, rfl, q g _ (s7 _ _ upd_same) (s1.trans (s5.trans (s6.trans s7)))⟩
end
end Rp

set_option maxHeartbeats 8000000
/-! What is alike; the law's own rules, and what is known with them. -/
namespace Rp
open PySem PySem.Spec PyProof.Rows L2 TL StX
theorem alike_plain {H : Hp} {n : Nat} {x : V} (p : Plain x) : Alike H n x x := by
  cases n with
  | zero => unfold Alike; exact ⟨p, rfl⟩
  | succ n => unfold Alike; exact .inl ⟨p, rfl⟩
theorem alike_tm {H : Hp} : ∀ {t : Tm} {n : Nat} {x y : V}, TmAt H x t → TmAt H y t → t.deep < n → Alike H n x y
  | .v m, n, _, _, .v _, .v _, _ => alike_plain trivial
  | .z, n + 1, _, _, .z h, .z h', _ => by
    unfold Alike
    refine .inr ⟨_, _, _, _, rfl, rfl, .inr ⟨h, h'⟩, rfl, by simp, fun i u v h1 h2 => ?_⟩
    obtain rfl : u = v := Option.some.inj (h1.symm.trans h2)
    match i with
    | 0 => simp at h1; subst h1; exact alike_plain trivial
    | i + 1 => simp at h1
  | .s t, n + 1, _, _, .s h q, .s h' q', hd => by
    unfold Alike
    refine .inr ⟨_, _, _, _, rfl, rfl, .inr ⟨h, h'⟩, rfl, by simp, fun i u v h1 h2 => ?_⟩
    match i with
    | 0 => simp at h1 h2; subst h1 h2; exact alike_plain trivial
    | 1 => simp at h1 h2; subst h1 h2; exact alike_tm q q' (by simp only [Tm.deep] at hd; omega)
    | i + 2 => simp at h1
  | .f l r, n + 1, _, _, .f h q1 q2, .f h' q1' q2', hd => by
    unfold Alike
    simp only [Tm.deep] at hd
    refine .inr ⟨_, _, _, _, rfl, rfl, .inr ⟨h, h'⟩, rfl, by simp, fun i u v h1 h2 => ?_⟩
    match i with
    | 0 => simp at h1 h2; subst h1 h2; exact alike_plain trivial
    | 1 => simp at h1 h2; subst h1 h2; exact alike_tm q1 q1' (by omega)
    | 2 => simp at h1 h2; subst h1 h2; exact alike_tm q2 q2' (by omega)
    | i + 3 => simp at h1
theorem alike_all {H : Hp} {n : Nat} : ∀ {ts : List Tm} {xs ys : List V}, AllAt H xs ts → AllAt H ys ts → (∀ t ∈ ts, t.deep < n) → ∀ (i : Nat) (u v : V), xs[i]? = some u → ys[i]? = some v → Alike H n u v
  | [], [], [], _, _, _, i, u, v, h, _ => by simp at h
  | t :: ts, x :: xs, y :: ys, A, B, hd, 0, u, v, h, h' => by
    obtain rfl : x = u := by simpa using h
    obtain rfl : y = v := by simpa using h'
    exact alike_tm A.1 B.1 (hd t (by simp))
  | t :: ts, x :: xs, y :: ys, A, B, hd, i + 1, u, v, h, h' => alike_all A.2 B.2 (fun s hs => hd s (by simp [hs])) i u v (by simpa using h) (by simpa using h')
theorem alike_at {H : Hp} {a : At} (ok : AtOk 50 a) {x y : V} (hx : AtAt H x a) (hy : AtAt H y a) : Alike H 52 x y := by
  obtain ⟨p, xs, rfl, hp, A⟩ := hx
  obtain ⟨q, ys, rfl, hq, B⟩ := hy
  have lx := A.len
  have ly := B.len
  have two := ok.two
  unfold Alike
  refine .inr ⟨p, q, _, _, rfl, rfl, .inr ⟨hp, hq⟩, by simp [lx, ly], by simp; omega, fun i u v h1 h2 => ?_⟩
  match i with
  | 0 =>
    simp at h1 h2; subst h1 h2; exact alike_plain trivial
  | i + 1 => exact alike_all A B (fun t ht => by have := Tm.deep_lt t; have := (ok.sm t ht).2; show t.deep < 51; omega) i u v (by simpa using h1) (by simpa using h2)
theorem alike_ats {H : Hp} : ∀ {as : List At} {xs ys : List V}, (∀ a ∈ as, AtOk 50 a) → AtsAt H xs as → AtsAt H ys as → ∀ (i : Nat) (u v : V), xs[i]? = some u → ys[i]? = some v → Alike H 52 u v
  | [], [], [], _, _, _, i, u, v, h, _ => by simp at h
  | a :: as, x :: xs, y :: ys, ok, A, B, 0, u, v, h, h' => by
    obtain rfl : x = u := by simpa using h
    obtain rfl : y = v := by simpa using h'
    exact alike_at (ok a (by simp)) A.1 B.1
  | a :: as, x :: xs, y :: ys, ok, A, B, i + 1, u, v, h, h' => alike_ats (fun b hb => ok b (by simp [hb])) A.2 B.2 i u v (by simpa using h) (by simpa using h')
theorem Alike.up {H : Hp} : ∀ {n : Nat} {x y : V}, Alike H n x y → Alike H (n + 1) x y
  | 0, x, y, h => by unfold Alike at h ⊢; exact .inl h
  | n + 1, x, y, h => by
    unfold Alike at h ⊢
    rcases h with h | ⟨a, b, xs, ys, h1, h2, h3, h4, h5, h6⟩
    · exact .inl h
    · exact .inr ⟨a, b, xs, ys, h1, h2, h3, h4, h5, fun i u v p q => Alike.up (h6 i u v p q)⟩
theorem alike_ru {H : Hp} {r : Ru} (ok : RuOk r) {x y : V} (hx : RuAt H x r) (hy : RuAt H y r) : Alike H 54 x y := by
  obtain ⟨p, q, vh, xs, rfl, hp, A1, hq, A2⟩ := hx
  obtain ⟨p', q', vh', ys, rfl, hp', B1, hq', B2⟩ := hy
  have lx := A2.len
  have ly := B2.len
  have few := ok.bd.few
  unfold Alike
  refine .inr ⟨p, p', _, _, rfl, rfl, .inr ⟨hp, hp'⟩, rfl, by simp, fun i u v h1 h2 => ?_⟩
  match i with
  | 0 =>
    simp at h1 h2; subst h1 h2; exact (alike_at ok.hd.toAtOk A1 B1).up
  | 1 =>
    simp at h1 h2; subst h1 h2
    unfold Alike
    exact .inr ⟨q, q', _, _, rfl, rfl, .inr ⟨hq, hq'⟩, by omega, by omega, alike_ats ok.bd.ok A2 B2⟩
  | i + 2 => simp at h1
theorem Alike.ups {H : Hp} {x y : V} {n m : Nat} (h : Alike H n x y) (le : n ≤ m) : Alike H m x y := by
  obtain ⟨k, rfl⟩ := Nat.exists_eq_add_of_le le
  clear le
  induction k with
  | zero => exact h
  | succ k ih => exact ih.up
theorem alike_lst {H : Hp} {n : Nat} {a c : Addr} {xs ys : List V} (ha : H a = some (.lst xs)) (hc : H c = some (.lst ys)) (l : xs.length = ys.length) (b : xs.length ≤ 1000000) (each : ∀ (i : Nat) (u v : V), xs[i]? = some u → ys[i]? = some v → Alike H n u v) : Alike H (n + 1) (.ref a) (.ref c) := by
  unfold Alike
  exact .inr ⟨a, c, xs, ys, rfl, rfl, .inl ⟨ha, hc⟩, l, b, each⟩
theorem alike_same {H : Hp} {n : Nat} {a c : Addr} {xs : List V} (ha : H a = some (.lst xs)) (hc : H c = some (.lst xs)) (b : xs.length ≤ 1000000) (each : ∀ u ∈ xs, Alike H n u u) : Alike H (n + 1) (.ref a) (.ref c) :=
  alike_lst ha hc rfl b fun i u v h1 h2 => by
    obtain rfl : u = v := Option.some.inj (h1.symm.trans h2)
    exact each u (List.mem_of_getElem? h1)
theorem rus_alike {H : Hp} {us : List V} {rs : List Ru} (R : RusAt H us rs) (ok : ∀ r ∈ rs, RuOk r) : ∀ u ∈ us, Alike H 54 u u := by
  intro u hu
  obtain ⟨i, hi⟩ := List.mem_iff_getElem?.mp hu
  obtain ⟨r, hr, T⟩ := R.get hi
  exact alike_ru (ok r (List.mem_of_getElem? hr)) T T
def rA (x : Str) : Ru := ⟨⟨x, [.s (.v 0)]⟩, [⟨x, [.v 0]⟩]⟩
def rB (x y : Str) (b : Bool) : Ru := ⟨⟨y, [.v 0, .f (.v 1) (.v 2)]⟩, if b then [⟨x, [.v 2]⟩] else []⟩
def aOwn (x : Str) (n : Int) : At := ⟨x, [.s (.v n)]⟩
theorem own_ok {x : Str} (h : NameOk x) {n : Int} (n0 : 0 ≤ n) (n9 : n ≤ 9) : AtOk 40 (aOwn x n) := by
  refine ⟨h, by simp [aOwn], by simp [aOwn], fun t ht => ?_⟩
  simp only [aOwn, List.mem_cons, List.not_mem_nil, or_false] at ht
  subst ht
  refine ⟨fun m hm => ?_, by simp [Tm.size]⟩
  simp only [Tm.nums, List.mem_cons, List.not_mem_nil, or_false] at hm
  omega
theorem AtOk.up' {a : At} (h : AtOk 40 a) : AtOk 50 a := ⟨h.nm, h.one, h.two, fun t ht => ⟨(h.sm t ht).1, by have := (h.sm t ht).2; omega⟩⟩
theorem rA_ok {x : Str} (h : NameOk x) : RuOk (rA x) := by
  refine ⟨⟨⟨h, by simp [rA], by simp [rA], fun t ht => ?_⟩, fun t ht => ?_, by rfl⟩, ⟨by simp [rA], fun a ha => ?_, fun a ha t ht => ?_⟩⟩
  · simp only [rA, List.mem_cons, List.not_mem_nil, or_false] at ht
    subst ht
    exact ⟨by intro m hm; simp only [Tm.nums, List.cons_append, List.nil_append, List.mem_cons, List.not_mem_nil, or_false] at hm; omega, by simp [Tm.size]⟩
  · simp only [rA, List.mem_cons, List.not_mem_nil, or_false] at ht
    subst ht
    trivial
  · simp only [rA, List.mem_cons, List.not_mem_nil, or_false] at ha
    subst ha
    refine ⟨h, by simp, by simp, fun t ht => ?_⟩
    simp only [List.mem_cons, List.not_mem_nil, or_false] at ht
    subst ht
    exact ⟨by intro m hm; simp only [Tm.nums, List.cons_append, List.nil_append, List.mem_cons, List.not_mem_nil, or_false] at hm; omega, by simp [Tm.size]⟩
  · simp only [rA, List.mem_cons, List.not_mem_nil, or_false] at ha
    subst ha
    simp only [List.mem_cons, List.not_mem_nil, or_false] at ht
    exact ⟨0, by simp [rA, hvars, Tm.nums], ht⟩
theorem rB_ok {x y : Str} {b : Bool} (hx : NameOk x) (hy : NameOk y) : RuOk (rB x y b) := by
  refine ⟨⟨⟨hy, by simp [rB], by simp [rB], fun t ht => ?_⟩, fun t ht => ?_, by rfl⟩, ⟨by cases b <;> simp [rB], fun a ha => ?_, fun a ha t ht => ?_⟩⟩
  · simp only [rB, List.mem_cons, List.not_mem_nil, or_false] at ht
    rcases ht with rfl | rfl
    · exact ⟨by intro m hm; simp only [Tm.nums, List.cons_append, List.nil_append, List.mem_cons, List.not_mem_nil, or_false] at hm; omega, by simp [Tm.size]⟩
    · exact ⟨by intro m hm; simp only [Tm.nums, List.cons_append, List.nil_append, List.mem_cons, List.not_mem_nil, or_false] at hm; omega, by simp [Tm.size]⟩
  · simp only [rB, List.mem_cons, List.not_mem_nil, or_false] at ht
    rcases ht with rfl | rfl <;> trivial
  · cases b with
    | false => simp [rB] at ha
    | true =>
      simp only [rB, if_true, List.mem_cons, List.not_mem_nil, or_false] at ha
      subst ha
      refine ⟨hx, by simp, by simp, fun t ht => ?_⟩
      simp only [List.mem_cons, List.not_mem_nil, or_false] at ht
      subst ht
      exact ⟨by intro m hm; simp only [Tm.nums, List.cons_append, List.nil_append, List.mem_cons, List.not_mem_nil, or_false] at hm; omega, by simp [Tm.size]⟩
  · cases b with
    | false => simp [rB] at ha
    | true =>
      simp only [rB, if_true, List.mem_cons, List.not_mem_nil, or_false] at ha
      subst ha
      simp only [List.mem_cons, List.not_mem_nil, or_false] at ht
      exact ⟨2, by simp [rB, hvars, Tm.nums], ht⟩
/-- what is known: each word's number of TERMs -/
structure Kn (x y : Str) (n : Nat) (kvs : KVs) : Prop where
  kd : Kd kvs
  ar : ∀ z m, valV kvs (.inr z) = some (.int (m : Nat)) → (z = x ∧ m = 1) ∨ (z = y ∧ m = 2)
  le : kvs.length ≤ n
theorem valV_put {kvs : KVs} {k : L2.Key} {v : V} (h : valV kvs k = none) (k' : L2.Key) : valV (putK kvs k v) k' = if k' = k then some v else valV kvs k' := by
  rw [putK_new h]
  unfold valV
  rw [List.find?_append]
  by_cases e : k' = k
  · subst e
    rw [if_pos rfl]
    have : kvs.find? (fun kv => decide (kv.1 = k')) = none := by
      unfold valV at h
      cases z : kvs.find? (fun kv => decide (kv.1 = k')) with
      | none => rfl
      | some p => rw [z] at h; cases h
    rw [this]
    simp
  · rw [if_neg e]
    have e2 : ¬ k = k' := fun z => e z.symm
    cases z : kvs.find? (fun kv => decide (kv.1 = k')) with
    | none => simp [e2]
    | some p => simp
/-- atoms in keeping with that don't clash, and are known behind -/
theorem kn_all {x y : Str} : ∀ {as : List At} {kvs : KVs} {n : Nat}, Kn x y n kvs → (∀ a ∈ as, (a.nm = x ∧ a.nm ≠ y ∧ a.ts.length = 1) ∨ (a.nm = y ∧ a.nm ≠ x ∧ a.ts.length = 2)) → clash kvs as = none ∧ Kn x y (n + as.length) (knows kvs as) ∧
    (∀ z v, valV kvs (.inr z) = some v → valV (knows kvs as) (.inr z) = some v) ∧ ∀ a ∈ as, valV (knows kvs as) (.inr a.nm) = some (ctV a)
  | [], kvs, n, h, _ => ⟨rfl, h, fun _ _ z => z, by simp⟩
  | a :: as, kvs, n, h, hs => by
    have ha := hs a (by simp)
    rcases clash_step (a := a) (r := as) h.kd with ⟨m, e, ⟨em, c, p⟩ | ⟨em, c⟩⟩ | ⟨e, c, k2⟩
    · obtain ⟨i1, i2, i3, i4⟩ := kn_all (as := as) h fun b hb => hs b (by simp [hb])
      have kn : knows kvs (a :: as) = knows kvs as := by
        show knows (putK kvs (.inr a.nm) (ctV a)) as = _
        rw [p]
      rw [kn, c]
      refine ⟨i1, ⟨i2.kd, i2.ar, by have := i2.le; simp; omega⟩, i3, fun b hb => ?_⟩
      rcases List.mem_cons.mp hb with rfl | hb
      · rw [i3 _ _ e, em]; rfl
      · exact i4 b hb
    · exfalso
      rcases h.ar _ _ e with ⟨q1, q2⟩ | ⟨q1, q2⟩
      · rcases ha with ⟨_, _, z⟩ | ⟨_, z, _⟩
        · omega
        · exact z q1
      · rcases ha with ⟨_, z, _⟩ | ⟨_, _, z⟩
        · exact z q1
        · omega
    · have h2 : Kn x y (n + 1) (putK kvs (.inr a.nm) (ctV a)) := by
        refine ⟨k2, fun z m hz => ?_, by have := putK_le kvs (.inr a.nm) (ctV a); have := h.le; omega⟩
        rw [valV_put e] at hz
        by_cases zz : (Sum.inr z : L2.Key) = .inr a.nm
        · rw [if_pos zz] at hz
          have z1 : z = a.nm := Sum.inr.inj zz
          have z2 := V.int.inj (Option.some.inj hz)
          rcases ha with ⟨q1, _, q3⟩ | ⟨q1, _, q3⟩
          · exact .inl ⟨z1.trans q1, by omega⟩
          · exact .inr ⟨z1.trans q1, by omega⟩
        · rw [if_neg zz] at hz
          exact h.ar z m hz
      obtain ⟨i1, i2, i3, i4⟩ := kn_all (as := as) h2 fun b hb => hs b (by simp [hb])
      have kn : knows kvs (a :: as) = knows (putK kvs (.inr a.nm) (ctV a)) as := rfl
      rw [kn, c]
      refine ⟨i1, ⟨i2.kd, i2.ar, by have := i2.le; simp; omega⟩, fun z v hz => i3 z v ?_, fun b hb => ?_⟩
      · rw [valV_put e]
        by_cases zz : (Sum.inr z : L2.Key) = .inr a.nm
        · rw [Sum.inr.inj zz, e] at hz; cases hz
        · rw [if_neg zz]; exact hz
      · rcases List.mem_cons.mp hb with rfl | hb
        · refine i3 _ _ ?_
          rw [valV_put e, if_pos rfl]
        · exact i4 b hb
theorem Kn.nil {x y : Str} : Kn x y 0 [] := ⟨Kd.nil, fun z m h => (by cases h), Nat.le_refl _⟩
def Fits (x y : Str) (r : Ru) : Prop := ∀ a ∈ r.hd :: r.bd, (a.nm = x ∧ a.nm ≠ y ∧ a.ts.length = 1) ∨ (a.nm = y ∧ a.nm ≠ x ∧ a.ts.length = 2)
theorem rA_fits {x y : Str} (ne : x ≠ y) : Fits x y (rA x) := by
  intro a ha
  simp only [rA, List.mem_cons, List.not_mem_nil, or_false] at ha
  rcases ha with rfl | rfl
  · exact .inl ⟨rfl, ne, rfl⟩
  · exact .inl ⟨rfl, ne, rfl⟩
theorem rB_fits {x y : Str} {b : Bool} (ne : x ≠ y) : Fits x y (rB x y b) := by
  intro a ha
  rcases List.mem_cons.mp ha with rfl | ha
  · exact .inr ⟨rfl, fun z => ne z.symm, rfl⟩
  · cases b with
    | false => simp [rB] at ha
    | true =>
      simp only [rB, if_true, List.mem_cons, List.not_mem_nil, or_false] at ha
      subst ha
      exact .inl ⟨rfl, ne, rfl⟩
theorem fits_all {x y : Str} {rs : List Ru} (h : ∀ r ∈ rs, Fits x y r) : ∀ a ∈ allAts rs, (a.nm = x ∧ a.nm ≠ y ∧ a.ts.length = 1) ∨ (a.nm = y ∧ a.nm ≠ x ∧ a.ts.length = 2) := by
  intro a ha
  obtain ⟨r, hr, ha⟩ := List.mem_flatMap.mp ha
  exact h r hr a ha
theorem badR_clash {x : Str} {kvs : KVs} (h : valV kvs (.inr x) = some (.int (1 : Nat))) : clash kvs ((badR x).hd :: (badR x).bd) = some x := by
  show clash kvs [⟨x, [.v 0, .v 1]⟩] = some x
  rw [clash, h]
  exact if_neg (by unfold ctV; simp)
theorem knA {x : Str} : knows [] ((rA x).hd :: (rA x).bd) = [((Sum.inr x : L2.Key), V.int (1 : Nat))] := by
  show putK (putK ([] : KVs) (Sum.inr x : L2.Key) (.int (1 : Nat))) (Sum.inr x : L2.Key) (.int (1 : Nat)) = _
  simp [putK]
def letter (c : Nat) : Str := ⟨#[c]⟩
theorem letter_ok {c : Nat} (h1 : 97 ≤ c) (h2 : c ≤ 122) : NameOk (letter c) := by
  refine ⟨by simp [letter, Str.length], by simp [letter, Str.length], fun d hd => ?_, fun e => ?_⟩
  · have : d = c := by simpa [letter, TL.tl] using hd
    omega
  · have := congrArg Str.length e
    rw [show (letter c).length = 1 from rfl, show ("if" : Str).length = 2 by decide +kernel] at this
    omega
theorem letter_inj {c d : Nat} (h : letter c = letter d) : c = d := by
  have := congrArg (fun s : Str => s.cps.toList) h
  simpa [letter] using this
theorem letters_at {i : Int} (h0 : 0 ≤ i) (h1 : i < 10) : atI ("abcdefghij" : Str).cps.toList i = some (97 + i.toNat) := by
  have e : ("abcdefghij" : Str).cps.toList = [97, 98, 99, 100, 101, 102, 103, 104, 105, 106] := by decide +kernel
  rw [e]
  obtain ⟨n, rfl⟩ := Int.eq_ofNat_of_zero_le h0
  have hn : n < 10 := by omega
  match n, hn with
  | 0, _ => rfl
  | 1, _ => rfl
  | 2, _ => rfl
  | 3, _ => rfl
  | 4, _ => rfl
  | 5, _ => rfl
  | 6, _ => rfl
  | 7, _ => rfl
  | 8, _ => rfl
  | 9, _ => rfl
end Rp

/-! A tuple times one: the tuple itself; a tuple times one or two. -/
namespace Rp
open PySem PySem.Spec PyProof.Rows L2
theorem once_meets (p : Addr) (its : Array Value) (m : Nat) (od : Option Addr) (ss : Array (Option Value)) (u : Tok) : Meets (Builtin.«tuple.__mul__» ⟨[.ref p, .int 1 u], []⟩)
    (fun _ R s => s.heap.get? p = some ⟨.type "tuple", od, .seq its m, ss⟩ ∧ R (.ok (.ret (.ref p))) s) :=
  .of_wp fun pr w A R s h => by
    obtain ⟨hp, g, d, tk, os⟩ := s
    obtain ⟨hl, h⟩ := h
    have f1 := AutoSeq1.idx_int
    have one : (its.isEmpty || (1 : Int) == 1) = true := by simp
    wp_walk using wpAny_loadPart' hl
    repeat (first
      | (refine wpAny_ite_false (by decide) ?_; wp_walk using wpAny_loadPart' hl)
      | (refine wpAny_ite_true (decide_eq_true one) ?_; wp_walk using wpAny_loadPart' hl))
    all_goals first | exact ⟨_, rfl, h⟩ | exact h | trivial
def rRepO (K : PySem.W.Frag) : R2 := fun x y H Q => ∃ (l : Addr) (k : Int) (xs : List V), x = .ref l ∧ y = .int k ∧ SqT K H l xs ∧ xs ≠ [] ∧ 1 ≤ k ∧ k ≤ 1000 ∧ xs.length ≤ 1000 ∧ (k = 1 → Q (.ref l) H) ∧
  (2 ≤ k → ∀ p, H p = none → Q (.ref p) (upd H p (.tup (List.replicate k.toNat xs).flatten)))
theorem op_repO {X : Cx} : OpR X (binaryOp .Mult) (rRepO X.K) := by
  intro pins s σ H x y v u Q I rx ry h
  obtain ⟨l, k, xs, ex, ey, ht, ne, k1, k2, sz, qs, qn⟩ := h
  by_cases two : 2 ≤ k
  · exact op_repT pins s σ H x y v u Q I rx ry ⟨l, k, xs, ex, ey, ht, ne, two, k2, sz, qn two⟩
  · obtain rfl : k = 1 := by omega
    subst ex ey
    cases rx
    obtain ⟨t, rfl⟩ := ry
    obtain ⟨its, r, q1, q2⟩ := I.tuple ht
    obtain ⟨⟨c1, d1, t1, s1⟩, g1, e1, n1, f1⟩ := id q1
    simp only at e1 f1
    subst e1 f1
    exact wpAny_binaryOp_repeat_ref (T := "tuple") (U := "int") (by decide) ⟨_, g1, rfl⟩ (fun s' => typeIs_int s' 1 t) noFill_tuple_mul F.fills_int_mul F.slot_int_rmul repeat_tuple F.slot_int_index.lookup
      (call_meets F.slot_int_rmul (typeIs_int s 1 t) F.entry_int_rmul (F.args_int_rmul_2 _ _) (int_rmul_tuple 1 t l its.toArray n1 d1 s1)
        ⟨g1, rfl, ⟨_, g1, rfl⟩, call_meets F.slot_tuple_mul ⟨_, g1, rfl⟩ F.entry_tuple_mul (F.args_tuple_mul_2 _ _) (once_meets l its.toArray n1 d1 s1 t) ⟨g1, ⟨.ref l, H, I, rfl, qs rfl⟩⟩⟩)
end Rp

/-! A tuple times none or one; a sign times none or one. -/
namespace Rp
open PySem PySem.Spec PyProof.Rows L2
theorem none_meets (p : Addr) (its : Array Value) (m : Nat) (od : Option Addr) (ss : Array (Option Value)) (u : Tok) (ne : its.isEmpty = false) : Meets (Builtin.«tuple.__mul__» ⟨[.ref p, .int 0 u], []⟩)
    (fun _ R s => s.heap.get? p = some ⟨.type "tuple", od, .seq its m, ss⟩ ∧ R (.ok (.ret (Value.ref s.heap.objs.size))) { s with heap := s.heap.push { cls := Value.type "tuple", data := Data.seq #[] }, toks := s.toks }) :=
  .of_wp fun pr w A R s h => by
    obtain ⟨hp, g, d, tk, os⟩ := s
    obtain ⟨hl, h⟩ := h
    have f1 := AutoSeq1.idx_int
    have c1 : (its.isEmpty || (0 : Int) == 1) = false := by rw [ne]; rfl
    have c2 : (decide ((0 : Int) ≤ 0) || its.isEmpty) = true := rfl
    wp_walk using wpAny_loadPart' hl
    repeat (first
      | (refine wpAny_ite_false (by decide) ?_; wp_walk using wpAny_loadPart' hl)
      | (refine wpAny_ite_false (decide_eq_false (by rw [c1]; exact Bool.false_ne_true)) ?_; wp_walk using wpAny_loadPart' hl)
      | (refine wpAny_ite_true (decide_eq_true c2) ?_; wp_walk using wpAny_loadPart' hl))
    all_goals first | exact ⟨_, rfl, h⟩ | exact h | trivial
def rRep01 (K : PySem.W.Frag) : R2 := fun x y H Q => ∃ (l : Addr) (k : Int) (xs : List V), x = .ref l ∧ y = .int k ∧ SqT K H l xs ∧ xs ≠ [] ∧ xs.length ≤ 1000 ∧ 0 ≤ k ∧ k ≤ 1 ∧ (k = 1 → Q (.ref l) H) ∧ (k = 0 → ∀ p, H p = none → Q (.ref p) (upd H p (.tup [])))
theorem op_rep01 {X : Cx} : OpR X (binaryOp .Mult) (rRep01 X.K) := by
  intro pins s σ H x y v u Q I rx ry h
  obtain ⟨l, k, xs, ex, ey, ht, ne, sz, k0, k1, q1, q0⟩ := h
  by_cases one : k = 1
  · exact op_repO pins s σ H x y v u Q I rx ry ⟨l, k, xs, ex, ey, ht, ne, by omega, by omega, sz, q1, fun z => by omega⟩
  · obtain rfl : k = 0 := by omega
    subst ex ey
    cases rx
    obtain ⟨t, rfl⟩ := ry
    obtain ⟨its, r, q1', q2'⟩ := I.tuple ht
    obtain ⟨⟨c1, d1, t1, s1⟩, g1, e1, n1, f1⟩ := id q1'
    simp only at e1 f1
    subst e1 f1
    have hn : its.toArray.isEmpty = false := by
      have hle : its.length = xs.length := r.length.symm
      cases its with
      | nil => exact absurd (List.eq_nil_of_length_eq_zero hle.symm) ne
      | cons a b => rfl
    refine wpAny_binaryOp_repeat_ref (T := "tuple") (U := "int") (by decide) ⟨_, g1, rfl⟩ (fun s' => typeIs_int s' 0 t) noFill_tuple_mul F.fills_int_mul F.slot_int_rmul repeat_tuple F.slot_int_index.lookup
      (call_meets F.slot_int_rmul (typeIs_int s 0 t) F.entry_int_rmul (F.args_int_rmul_2 _ _) (int_rmul_tuple 0 t l its.toArray n1 d1 s1)
        ⟨g1, rfl, ⟨_, g1, rfl⟩, call_meets F.slot_tuple_mul ⟨_, g1, rfl⟩ F.entry_tuple_mul (F.args_tuple_mul_2 _ _) (none_meets l its.toArray n1 d1 s1 t hn) ⟨g1, ?_⟩⟩)
    refine ⟨.ref s.heap.objs.size, _, I.laid (t' := s.toks) (o := .tup []) (fun b ob q => Heap.get?_push_of_some _ q) (Nat.le_refl _) ?_, rfl, q0 rfl _ (I.hok.fresh (Nat.le_refl _))⟩
    exact ⟨by simp, [], .nil, IsTup.new _ _⟩
def rQs : R2 := fun x y H Q => x = .str "q" ∧ ((y = .int 0 ∧ Q (.str Str.empty) H) ∨ (y = .int 1 ∧ Q (.str "q") H))
theorem op_mulQ {X : Cx} : OpR X (binaryOp .Mult) rQs := by
  intro pins s σ H x y v u Q I rx ry h
  rcases h with ⟨rfl, ⟨rfl, q⟩ | ⟨rfl, q⟩⟩
  · obtain ⟨t, rfl⟩ := rx
    obtain ⟨t', rfl⟩ := ry
    exact PySem.P.mul_str (by decide) (fun h _ => absurd (by decide) h) (fun h _ => absurd (by decide) h) (by rw [if_pos (by decide)]; exact ⟨by decide, V.str Str.empty, H, I.tok _, ⟨_, rfl⟩, q⟩)
  · obtain ⟨t, rfl⟩ := rx
    obtain ⟨t', rfl⟩ := ry
    exact PySem.P.mul_str (by decide) (fun _ _ => by decide +kernel) (fun _ _ => by decide +kernel) (by rw [if_neg (by decide), if_pos (by decide +kernel)]; exact ⟨V.str "q", H, I, ⟨_, rfl⟩, q⟩)
end Rp

set_option maxHeartbeats 8000000
/-! What the law k16 keeps along its turn. -/
namespace Rp
open PySem PySem.Spec PyProof.Rows L2 TL StX NdefX LamX PpSet
/-- while things are drawn -/
structure Bs (T : List NTab) (pc : Addr) (cs : List V) (b : Addr) (j : Nat) (H : Hp) : Prop where
  box : BoxAt H b j
  hpc : H pc = some (.lst cs)
  pb : pc ≠ b
  tab : TabsN T H
theorem Bs.same {T : List NTab} {pc b : Addr} {cs : List V} {j : Nat} {H H' : Hp} (W : Bs T pc cs b j H) (s : Same H H') : Bs T pc cs b j H' := ⟨W.box.same s, s _ _ W.hpc, W.pb, W.tab.ext s⟩
theorem Bs.take {T : List NTab} {pc b : Addr} {cs : List V} {j j' : Nat} {H H' : Hp} (W : Bs T pc cs b j H) (o : But b H H') (B : BoxAt H' b j') : Bs T pc cs b j' H' := by
  obtain ⟨y, hb⟩ := W.box.some
  exact ⟨B, o _ _ W.hpc W.pb, W.pb, tabs_but W.tab hb o⟩
theorem Bs.tups {T : List NTab} {pc b : Addr} {cs : List V} {j : Nat} {H H' : Hp} (W : Bs T pc cs b j H) (o : But b H H') : ∀ a xs, H a = some (.tup xs) → H' a = some (.tup xs) := by
  obtain ⟨y, hb⟩ := W.box.some
  exact fun a xs h => o _ _ h (ne_of h hb (by intro z; cases z))
theorem rep_ok {K : PySem.W.Frag} {l : Addr} {k : Int} {xs : List V} {H : Hp} {Q : VK} (h : H l = some (.tup xs)) (ne : xs ≠ []) (sz : xs.length ≤ 1000) (k0 : 0 ≤ k) (k1 : k < 2)
    (go : ∀ (p : Addr) (bb : Bool) (H' : Hp), H' p = some (.tup (if bb = true then xs else [])) → Same H H' → Q (.ref p) H') : rRep01 K (.ref l) (.int k) H Q :=
  ⟨l, k, xs, rfl, rfl, .inl (.inl h), ne, sz, k0, by omega, fun _ => go l true H (by simpa using h) (fun _ _ z => z), fun _ p hp => go p false _ (by simpa using upd_same) (same_new hp _)⟩
/-- the things that the law has made -/
structure Fc (T : List NTab) (pc : Addr) (cs : List V) (x y : Str) (bb : Bool) (n m : Int) (v1 v2 vo : V) (pa : Addr) (H : Hp) : Prop where
  hpc : H pc = some (.lst cs)
  tab : TabsN T H
  a1 : RuAt H v1 (rA x)
  a2 : RuAt H v2 (rB x y bb)
  ao : AtAt H vo (aOwn x n)
  ap : BdAt H pa [(m, .z)]
section
variable {T : List NTab} {pc : Addr} {cs : List V} {x y : Str} {bb : Bool} {n m : Int} {v1 v2 vo : V} {pa : Addr} {H H' : Hp}
theorem Fc.ext (F : Fc T pc cs x y bb n m v1 v2 vo pa H) (e : Ext T H H') : Fc T pc cs x y bb n m v1 v2 vo pa H' :=
  ⟨e.lst F.hpc, e.tab, F.a1.mono e.tups.1, F.a2.mono e.tups.1, atAt_mono e.tups.1 F.ao, F.ap.mono e.tups⟩
theorem Fc.same (F : Fc T pc cs x y bb n m v1 v2 vo pa H) (s : Same H H') : Fc T pc cs x y bb n m v1 v2 vo pa H' := F.ext (Ext.same F.tab s)
theorem code_ins {c C dx : Addr} {q : Str} {fs : List (Str × V)} : CodeO c q ≠ .ins C dx fs := fun z => by unfold CodeO at z; cases z
theorem Fc.but2 {C dx p l : Addr} {fs : List (Str × V)} {us : List V} (F : Fc T pc cs x y bb n m v1 v2 vo pa H) (hp : H p = some (.ins C dx fs)) (hl : H l = some (.lst us)) (ne : pc ≠ l) (o : But2 p l H H') : Fc T pc cs x y bb n m v1 v2 vo pa H' := by
  have tu : Tups H H' := ⟨fun a xs h => o _ _ h (ne_of h hp (by intro z; cases z)) (ne_of h hl (by intro z; cases z)), fun a o' xs h => o _ _ h (ne_of h hp (by intro z; cases z)) (ne_of h hl (by intro z; cases z))⟩
  refine ⟨o _ _ F.hpc (ne_of F.hpc hp (by intro z; cases z)) ne, fun q hq => ?_, F.a1.mono tu.1, F.a2.mono tu.1, atAt_mono tu.1 F.ao, F.ap.mono tu⟩
  obtain ⟨ps, h1, h2, h3⟩ := F.tab q hq
  refine ⟨ps, o _ _ h1 (ne_of h1 hp (by intro z; cases z)) (ne_of h1 hl (by intro z; cases z)), h2, fun pos cv hc => ?_⟩
  obtain ⟨c, e1, e2⟩ := h3 pos cv hc
  exact ⟨c, e1, o _ _ e2 (ne_of e2 hp code_ins) (ne_of e2 hl code_lst)⟩
end
theorem DfAt.but2 {C : Addr} {H H' : Hp} {p l q lq : Addr} {us ws : List V} {kv kw : KVs} (D : DfAt C H q lq ws kw) (E : DfAt C H p l us kv) (n1 : q ≠ p) (n2 : lq ≠ l) (o : But2 p l H H') : DfAt C H' q lq ws kw := by
  obtain ⟨dx, dt, h1, h2, h3⟩ := D
  obtain ⟨dx', dt', g1, g2, g3⟩ := E
  exact ⟨dx, dt, o _ _ h1 n1 (ne_of h1 g2 (by intro z; cases z)), o _ _ h2 (ne_of h2 g1 (by intro z; cases z)) n2, o _ _ h3 (ne_of h3 g1 (by intro z; cases z)) (ne_of h3 g2 (by intro z; cases z))⟩
def AlL (H : Hp) (n : Nat) (xs ys : List V) : Prop := xs.length = ys.length ∧ ∀ (i : Nat) (u v : V), xs[i]? = some u → ys[i]? = some v → Alike H n u v
theorem AlL.nil {H : Hp} {n : Nat} : AlL H n [] [] := ⟨rfl, fun i u v h => by simp at h⟩
theorem AlL.cons {H : Hp} {n : Nat} {a b : V} {xs ys : List V} (h : Alike H n a b) (t : AlL H n xs ys) : AlL H n (a :: xs) (b :: ys) := by
  refine ⟨by rw [List.length_cons, List.length_cons, t.1], fun i u v h1 h2 => ?_⟩
  match i with
  | 0 => simp at h1 h2; subst h1 h2; exact h
  | i + 1 => exact t.2 i u v (by simpa using h1) (by simpa using h2)
theorem AlL.lst {H : Hp} {n : Nat} {a c : Addr} {xs ys : List V} (h : AlL H n xs ys) (ha : H a = some (.lst xs)) (hc : H c = some (.lst ys)) (b : xs.length ≤ 1000000) : Alike H (n + 1) (.ref a) (.ref c) := alike_lst ha hc h.1 b h.2
theorem own_put {x : Str} (h : NameOk x) {n m : Int} (n0 : 0 ≤ n) (n9 : n ≤ 9) : AtOk 50 ⟨x, (aOwn x n).ts.map (Tm.put [(m, .z)])⟩ := by
  refine ⟨h, by simp [aOwn], by simp [aOwn], fun t ht => ?_⟩
  simp only [aOwn, List.map_cons, List.map_nil, List.mem_cons, List.not_mem_nil, or_false] at ht
  subst ht
  have e : (Tm.v n).put [(m, .z)] = Tm.z ∨ (Tm.v n).put [(m, .z)] = Tm.v n := by
    show (([(m, Tm.z)] : Bd).lookup n).getD (Tm.v n) = Tm.z ∨ _ = Tm.v n
    by_cases z : n = m
    · subst z
      exact .inl (by simp [List.lookup])
    · have : (n == m) = false := beq_eq_false_iff_ne.mpr z
      refine .inr ?_
      show (([(m, Tm.z)] : Bd).lookup n).getD (Tm.v n) = Tm.v n
      rw [List.lookup_cons, this]
      rfl
  show (Tm.s ((Tm.v n).put [(m, .z)])).small ∧ (Tm.s ((Tm.v n).put [(m, .z)])).size ≤ 50
  rcases e with e | e <;> rw [e]
  · exact ⟨by intro k hk; simp [Tm.nums] at hk, by simp [Tm.size]⟩
  · exact ⟨by intro k hk; simp only [Tm.nums, List.mem_cons, List.not_mem_nil, or_false] at hk; omega, by simp [Tm.size]⟩
theorem ns_one {ns : List Int} {n : Int} (up : ns.Pairwise (· < ·)) (mem : ∀ k, k ∈ ns ↔ k ∈ [n]) : ns = [n] := by
  match ns, up with
  | [], _ =>
    have := (mem n).mpr (by simp)
    simp at this
  | [a], _ =>
    have := (mem a).mp (by simp)
    simp at this
    rw [this]
  | a :: b :: r, up =>
    have h1 := (mem a).mp (by simp)
    have h2 := (mem b).mp (by simp)
    simp at h1 h2
    have := (List.pairwise_cons.mp up).1 b (by simp)
    omega
theorem picked_three {x y : Str} (ne : x ≠ y) {bb : Bool} {v1 v2 : V} : picked x [v1, v2, v1] [rA x, rB x y bb, rA x] = [v1, v1] := by
  have e : (rB x y bb).hd.nm = y := rfl
  have e1 : (rA x).hd.nm = x := rfl
  simp [picked, e, e1, ne.symm]
theorem picked_two {x y : Str} (ne : x ≠ y) {bb : Bool} {v1 v2 : V} : picked x [v1, v2] [rA x, rB x y bb] = [v1] := by
  have e : (rB x y bb).hd.nm = y := rfl
  have e1 : (rA x).hd.nm = x := rfl
  simp [picked, e, e1, ne.symm]
theorem told_str {K : PySem.W.Frag} {H : Hp} {q : Addr} {x : Str} (h : H q = some (.lst [.bl true, .str x])) : Dp K H (.ref q) (.list [.bool true, .str x]) := .lst (.inl (.inl h)) (.cons (.bl true) (.cons (.str x) .nil))
theorem told_int {K : PySem.W.Frag} {H : Hp} {q : Addr} {n : Int} (h : H q = some (.lst [.bl true, .int n])) : Dp K H (.ref q) (.list [.bool true, .int n]) := .lst (.inl (.inl h)) (.cons (.bl true) (.cons (.int n) .nil))
theorem lay_str {x : Str} (h : NameOk x) : (PyData.list [.bool true, .str x]).canLay0 = true := by
  show PyData.canLayAll0 [.bool true, .str x] = true
  simp only [PyData.canLayAll0, name_lay h]
  rfl
theorem sh_str {x : Str} (h : NameOk x) : SeqAt.shaped (.list [.bool true, .str x]) = true := shaped_of (lay_str h) (by show PyData.depthAll [.bool true, .str x] + 1 ≤ 64; simp [PyData.depthAll, PyData.depth])
theorem sh_three : SeqAt.shaped (.list [.bool true, .int 3]) = true := by decide +kernel
end Rp

set_option maxHeartbeats 16000000
/-! The law k16: its names. -/
namespace Rp
open PySem PySem.Spec PyProof.Rows L2 TL StX NdefX LamX PpSet
def spLaw (T : List NTab) (K : PySem.W.Frag) : Sp := fun vs H Q _ => ∃ (a : Addr) (ns : List Int), vs = [.ref a] ∧ SqL K H a (ns.map V.int) ∧ ns.length ≤ 63 ∧ TabsN T H ∧ ∀ H', Q (.bl true) H'
abbrev NL : List Str := ["_law_script", "_law_cells", "_law_k", "_law_box_here", "_law_letters", "_law_one", "_law_two", "_law_first", "_law_second", "_law_own", "_law_pairs", "_law_told", "_law_due", "_law_bare", "_law_made", "_law_written"]
def gjoin : {α : Type} → List α → List α → List α := fun us ws => us ++ ws
/-- what a class with an own == has -/
structure EqM (K : PySem.W.Frag) (C fE : Addr) : Prop where
  eq : PySem.W.findIn K (.ref C) "__eq__" = some (some (.ref fE))
  fn : PySem.W.isFn K (.ref fE) = true
  ne : PySem.W.findIn K (.ref C) "__ne__" = some (some (.builtin "object.__ne__"))
  ob : PySem.W.subIn K (.ref C) (.type "object") = some true
/-- the statements of a turn -/
abbrev lwB : List Stmt := match defBody sLaw with
  | [_, .For _ _ b _ _, _] => b
  | _ => []
section
variable {P : Program} {w : World} {K : PySem.W.Frag} {mg : Str → Option Value} {base : Heap}
theorem scLaw : FnScope NL ["_law_script"] (defScope sLaw) := ⟨rfl, rfl, rfl, by decide +kernel, rfl, by decide +kernel, by decide +kernel⟩
end
/-- where the law's statements run -/
abbrev LX (P : Program) (w : World) (K : PySem.W.Frag) (mg : Str → Option Value) (base : Heap) (f : Addr) (cdv : Value) (A : Around) (outer : List Env) (s : Shared) (H0 : Hp) (E : XK) : Cx := (cxOf CX0 P w K mg base NL "law" (defScope sLaw) f cdv A outer s H0 E).nox
/-- Definitions that the law has told three rules -/
structure Mdx (C : Addr) (x y : Str) (v1 v2 : V) (xm lm : Addr) (kvs : KVs) (H : Hp) : Prop where
  df : DfAt C H xm lm [v1, v2, v1] kvs
  kd : Kd kvs
  le : kvs.length ≤ 900
  vA : valV kvs (.inr x) = some (.int (1 : Nat))
  vB : valV kvs (.inr y) = some (.int (2 : Nat))
theorem Mdx.same {C : Addr} {x y : Str} {v1 v2 : V} {xm lm : Addr} {kvs : KVs} {H H' : Hp} (M : Mdx C x y v1 v2 xm lm kvs H) (s : Same H H') : Mdx C x y v1 v2 xm lm kvs H' := ⟨M.df.same' s, M.kd, M.le, M.vA, M.vB⟩
end Rp

set_option maxHeartbeats 16000000
/-! The law k16: told and due. -/
namespace Rp
open PySem PySem.Spec PyProof.Rows L2 TL StX NdefX LamX PpSet
section
variable {P : Program} {w : World} {K : PySem.W.Frag} {mg : Str → Option Value} {base : Heap}
theorem lw_b {T : List NTab} {fNm fAm fRu fAV fAP fAT fRT fAI fRI fS C CC CN q0 : Addr} {dNm dAm dRu dAV dAP dAT dRT dAI dRI dS : FuncData} {f : Addr} {cdv : Value} {A : Around} {outer : List Env} {s0 : Shared} {H0 : Hp} {E : XK} {tR : TS}
    (GNm : FnOk P w K mg base CX0 1 fNm dNm ["thing"] spIsName) (kNm : PySem.W.keepIn K (.ref fNm) = true) (bNm : Binds K dNm ["thing"] []) (qNm : KBinds K dNm ["thing"] ["thing"] gcat gcat) (mNm : mg "is_name" = some (.ref fNm))
    (GAm : FnOk P w K mg base CX0 4 fAm dAm ["thing"] spIsAtom) (kAm : PySem.W.keepIn K (.ref fAm) = true) (bAm : Binds K dAm ["thing"] []) (qAm : KBinds K dAm ["thing"] ["thing"] gcat gcat) (mAm : mg "is_atom" = some (.ref fAm))
    (GRu : FnOk P w K mg base CX0 6 fRu dRu ["thing"] spIsRule) (kRu : PySem.W.keepIn K (.ref fRu) = true) (bRu : Binds K dRu ["thing"] []) (qRu : KBinds K dRu ["thing"] ["thing"] gcat gcat) (mRu : mg "is_rule" = some (.ref fRu))
    (GAV : FnOk P w K mg base CX0 4 fAV dAV ["atom"] spAVars) (kAV : PySem.W.keepIn K (.ref fAV) = true) (bAV : Binds K dAV ["atom"] []) (qAV : KBinds K dAV ["atom"] ["atom"] gcat gcat) (mAV : mg "atom_variables" = some (.ref fAV))
    (GAP : FnOk P w K mg base CX0 5 fAP dAP ["atom", "binding"] (spAPut T)) (kAP : PySem.W.keepIn K (.ref fAP) = true) (bAP : Binds K dAP ["atom", "binding"] []) (qAP : KBinds K dAP ["atom", "binding"] ["binding", "atom"] gtwo gtwo) (mAP : mg "atom_put" = some (.ref fAP))
    (GAT : FnOk P w K mg base CX0 5 fAT dAT ["atom"] spAtomText) (kAT : PySem.W.keepIn K (.ref fAT) = true) (bAT : Binds K dAT ["atom"] []) (qAT : KBinds K dAT ["atom"] ["atom"] gcat gcat) (mAT : mg "atom_text" = some (.ref fAT))
    (GRT : FnOk P w K mg base CX0 7 fRT dRT ["rule"] spRuleText) (kRT : PySem.W.keepIn K (.ref fRT) = true) (bRT : Binds K dRT ["rule"] []) (qRT : KBinds K dRT ["rule"] ["rule"] gcat gcat) (mRT : mg "rule_text" = some (.ref fRT))
    (GAI : FnOk P w K mg base CX0 7 fAI dAI ["text"] spAtomOr) (kAI : PySem.W.keepIn K (.ref fAI) = true) (qAI : KBinds K dAI ["text"] ["text"] gcat gcat) (mAI : mg "atom_in" = some (.ref fAI))
    (GRI : FnOk P w K mg base CX0 9 fRI dRI ["text"] spRuleOr) (kRI : PySem.W.keepIn K (.ref fRI) = true) (qRI : KBinds K dRI ["text"] ["text"] gcat gcat) (mRI : mg "rule_in" = some (.ref fRI))
    (GS : FnOk P w K mg base CX0 61 fS dS ["_law_found", "_law_due"] (spSame 61)) (kS : PySem.W.keepIn K (.ref fS) = true) (bS : Binds K dS ["_law_found", "_law_due"] []) (mS : mg "_law_same" = some (.ref fS))
    (mLen : mg "len" = none) (hr : Room 61 (LX P w K mg base f cdv A outer s0 H0 E).A) (hR : PSs (LX P w K mg base f cdv A outer s0 H0 E) (lwB.drop 11) tR) :
    ∃ t : TS, PSs (LX P w K mg base f cdv A outer s0 H0 E) (lwB.drop 5) t ∧ ∀ (En : L2.Ends) (x y : Str) (bb : Bool) (n m : Int) (v1 v2 vo : V) (pa a pc : Addr) (cs : List V) (k b lt z11 z12 z13 z14 z15 : Option V) (G0 : Hp), NameOk x → NameOk y → x ≠ y → 0 ≤ n → n < 9 → Fc T pc cs x y bb n m v1 v2 vo pa G0 →
      (∀ (z11 z12 : Option V) (G' : Hp), Fc T pc cs x y bb n m v1 v2 vo pa G' → tR En [some (.ref a), some (.ref pc), k, b, lt, some (.str x), some (.str y), some v1, some v2, some vo, some (.ref pa), z11, z12, z13, z14, z15] G') → t En [some (.ref a), some (.ref pc), k, b, lt, some (.str x), some (.str y), some v1, some v2, some vo, some (.ref pa), z11, z12, z13, z14, z15] G0 := by
  have r1 : Room 1 _ := hr.mono (by decide)
  have r2 : Room 2 _ := hr.mono (by decide)
  have r4 : Room 4 _ := hr.mono (by decide)
  have r5 : Room 5 _ := hr.mono (by decide)
  have r6 : Room 6 _ := hr.mono (by decide)
  have r7 : Room 7 _ := hr.mono (by decide)
  have r8 : Room 8 _ := hr.mono (by decide)
  have r9 : Room 9 _ := hr.mono (by decide)
  have r10 : Room 10 _ := hr.mono (by decide)
  refine ⟨_, pss_cons (ps_set (i := 11) scLaw.nd rfl (Or.inl rfl) (pe_lst (pa_cons (pe_callKw GNm r1 (by rfl) mNm kNm qNm pass0 (pk_cons (pv 5) pk_nil)) (pa_cons (pe_callKw GAm r4 (by rfl) mAm kAm qAm pass0 (pk_cons (pv 9) pk_nil)) (pa_cons (pe_callKw GRu r6 (by rfl) mRu kRu qRu pass0 (pk_cons (pv 7) pk_nil)) (pa_cons (pe_callKw GAV r4 (by rfl) mAV kAV qAV pass0 (pk_cons (pv 9) pk_nil)) pa_nil))))))
      (pss_cons (ps_set (i := 12) scLaw.nd rfl (Or.inl rfl) (pe_lst (pa_cons (pe_call GNm r1 (by rfl) mNm kNm bNm .nil pass0 (pa_cons (pv 5) pa_nil)) (pa_cons (pe_call GAm r4 (by rfl) mAm kAm bAm .nil pass0 (pa_cons (pv 9) pa_nil)) (pa_cons (pe_call GRu r6 (by rfl) mRu kRu bRu .nil pass0 (pa_cons (pv 7) pa_nil)) (pa_cons (pe_call GAV r4 (by rfl) mAV kAV bAV .nil pass0 (pa_cons (pv 9) pa_nil)) pa_nil))))))
      (pss_cons (ps_set (i := 11) scLaw.nd rfl (Or.inl rfl) (pe_op op_cat (pv 11) (pe_lst (pa_cons (pe_callKw GAP r5 (by rfl) mAP kAP qAP pass0 (pk_cons (pv 10) (pk_cons (pv 9) pk_nil))) (pa_cons (pe_callKw GAT r5 (by rfl) mAT kAT qAT pass0 (pk_cons (pv 9) pk_nil)) (pa_cons (pe_callKw GRT r7 (by rfl) mRT kRT qRT pass0 (pk_cons (pv 8) pk_nil)) pa_nil))))))
      (pss_cons (ps_set (i := 12) scLaw.nd rfl (Or.inl rfl) (pe_op op_cat (pv 12) (pe_lst (pa_cons (pe_call GAP r5 (by rfl) mAP kAP bAP .nil pass0 (pa_cons (pv 9) (pa_cons (pv 10) pa_nil))) (pa_cons (pe_call GAT r5 (by rfl) mAT kAT bAT .nil pass0 (pa_cons (pv 9) pa_nil)) (pa_cons (pe_call GRT r7 (by rfl) mRT kRT bRT .nil pass0 (pa_cons (pv 8) pa_nil)) pa_nil))))))
      (pss_cons (ps_set (i := 11) scLaw.nd rfl (Or.inl rfl) (pe_op op_cat (pv 11) (pe_lst (pa_cons (pe_callKw GAI r7 (by rfl) mAI kAI qAI pass0 (pk_cons (pe_call GAT r5 (by rfl) mAT kAT bAT .nil pass0 (pa_cons (pv 9) pa_nil)) pk_nil)) (pa_cons (pe_callKw GRI r9 (by rfl) mRI kRI qRI pass0 (pk_cons (pe_call GRT r7 (by rfl) mRT kRT bRT .nil pass0 (pa_cons (pv 8) pa_nil)) pk_nil)) pa_nil)))))
      (pss_cons (ps_if (pt_not (pt_val (pe_call GS hr (by rfl) mS kS bS .nil pass0 (pa_cons (pv 11) (pa_cons (pe_op op_cat (pv 12) (pe_lst (pa_cons (pv 9) (pa_cons (pv 8) pa_nil)))) pa_nil))))) (pss_one (ps_ret pe_bl)) pss_nil) hR))))), fun En x y bb n m v1 v2 vo pa a pc cs k b lt z11 z12 z13 z14 z15 G0 nx ny ne n0 n1 FC go => ?_⟩
  have own := own_ok nx n0 (by omega : n ≤ 9)
  have own5 := own.up'
  have okB := rB_ok (b := bb) nx ny
  refine ⟨_, rfl, x, rfl, nx, fun G1 s => ?_⟩
  have e := Ext.same FC.tab s
  replace FC := FC.ext e
  clear e
  clear s
  refine ⟨_, rfl, vo, aOwn x n, rfl, FC.ao, own5, fun G2 s => ?_⟩
  have e := Ext.same FC.tab s
  replace FC := FC.ext e
  clear e
  clear s
  refine ⟨_, rfl, v1, rA x, rfl, FC.a1, rA_ok nx, fun G3 s => ?_⟩
  have e := Ext.same FC.tab s
  replace FC := FC.ext e
  clear e
  clear s
  refine ⟨_, rfl, vo, x, (aOwn x n).ts, rfl, FC.ao, own.two, fun t ht => (own.sm t ht).2, fun g1 ns G4 ng hg1 up mem s => ?_⟩
  obtain rfl : ns = [n] := ns_one up (by intro k; rw [mem k]; simp [aOwn, Tm.nums])
  have e := Ext.same FC.tab s
  replace FC := FC.ext e
  clear e
  clear s up mem
  refine ⟨(by show 4 ≤ sizeLine; decide), fun told0 ntold0 => ?_⟩
  have s := same_new ntold0 (.lst ([V.bl true, .bl true, .bl true, .ref g1]))
  have htold0 : (upd G4 told0 (.lst ([V.bl true, .bl true, .bl true, .ref g1]))) told0 = some (.lst [V.bl true, .bl true, .bl true, .ref g1]) := upd_same
  have e := Ext.same FC.tab s
  replace FC := FC.ext e
  replace hg1 := e.lst hg1
  clear e
  generalize upd G4 told0 (.lst ([V.bl true, .bl true, .bl true, .ref g1])) = G5 at FC s hg1 htold0 ⊢
  clear s
  refine ⟨_, rfl, x, rfl, nx, fun G6 s => ?_⟩
  have e := Ext.same FC.tab s
  replace FC := FC.ext e
  replace hg1 := e.lst hg1
  replace htold0 := e.lst htold0
  clear e
  clear s
  refine ⟨_, rfl, vo, aOwn x n, rfl, FC.ao, own5, fun G7 s => ?_⟩
  have e := Ext.same FC.tab s
  replace FC := FC.ext e
  replace hg1 := e.lst hg1
  replace htold0 := e.lst htold0
  clear e
  clear s
  refine ⟨_, rfl, v1, rA x, rfl, FC.a1, rA_ok nx, fun G8 s => ?_⟩
  have e := Ext.same FC.tab s
  replace FC := FC.ext e
  replace hg1 := e.lst hg1
  replace htold0 := e.lst htold0
  clear e
  clear s
  refine ⟨_, rfl, vo, x, (aOwn x n).ts, rfl, FC.ao, own.two, fun t ht => (own.sm t ht).2, fun g2 ns G9 ng hg2 up mem s => ?_⟩
  obtain rfl : ns = [n] := ns_one up (by intro k; rw [mem k]; simp [aOwn, Tm.nums])
  have e := Ext.same FC.tab s
  replace FC := FC.ext e
  replace hg1 := e.lst hg1
  replace htold0 := e.lst htold0
  clear e
  clear s up mem
  refine ⟨(by show 4 ≤ sizeLine; decide), fun due0 ndue0 => ?_⟩
  have s := same_new ndue0 (.lst ([V.bl true, .bl true, .bl true, .ref g2]))
  have hdue0 : (upd G9 due0 (.lst ([V.bl true, .bl true, .bl true, .ref g2]))) due0 = some (.lst [V.bl true, .bl true, .bl true, .ref g2]) := upd_same
  have e := Ext.same FC.tab s
  replace FC := FC.ext e
  replace hg1 := e.lst hg1
  replace htold0 := e.lst htold0
  replace hg2 := e.lst hg2
  clear e
  generalize upd G9 due0 (.lst ([V.bl true, .bl true, .bl true, .ref g2])) = G10 at FC s hg1 htold0 hg2 hdue0 ⊢
  clear s
  refine ⟨_, rfl, _, rfl, _, rfl, vo, x, (aOwn x n).ts, pa, [(m, .z)], rfl, FC.ao, own.two, fun t ht => Nat.le_trans (own.sm t ht).2 (by decide), FC.ap, FC.tab, fun va G11 hva e => ?_⟩
  replace FC := FC.ext e
  replace hg1 := e.lst hg1
  replace htold0 := e.lst htold0
  replace hg2 := e.lst hg2
  replace hdue0 := e.lst hdue0
  clear e
  replace hva : AtAt G11 va ⟨x, (aOwn x n).ts.map (Tm.put [(m, .z)])⟩ := hva
  refine ⟨_, rfl, vo, aOwn x n, rfl, FC.ao, own5, fun G12 s => ?_⟩
  have e := Ext.same FC.tab s
  replace FC := FC.ext e
  replace hg1 := e.lst hg1
  replace htold0 := e.lst htold0
  replace hg2 := e.lst hg2
  replace hdue0 := e.lst hdue0
  replace hva := atAt_mono e.tups.1 hva
  clear e
  clear s
  refine ⟨_, rfl, v2, rB x y bb, rfl, FC.a2, okB, fun G13 s => ?_⟩
  have e := Ext.same FC.tab s
  replace FC := FC.ext e
  replace hg1 := e.lst hg1
  replace htold0 := e.lst htold0
  replace hg2 := e.lst hg2
  replace hdue0 := e.lst hdue0
  replace hva := atAt_mono e.tups.1 hva
  clear e
  clear s
  refine ⟨(by show 3 ≤ sizeLine; decide), fun told1p ntold1p => ?_⟩
  have s := same_new ntold1p (.lst ([va, V.str (atxt (aOwn x n)), .str (rtxt (rB x y bb))]))
  have htold1p : (upd G13 told1p (.lst ([va, V.str (atxt (aOwn x n)), .str (rtxt (rB x y bb))]))) told1p = some (.lst [va, V.str (atxt (aOwn x n)), .str (rtxt (rB x y bb))]) := upd_same
  have e := Ext.same FC.tab s
  replace FC := FC.ext e
  replace hg1 := e.lst hg1
  replace htold0 := e.lst htold0
  replace hg2 := e.lst hg2
  replace hdue0 := e.lst hdue0
  replace hva := atAt_mono e.tups.1 hva
  clear e
  generalize upd G13 told1p (.lst ([va, V.str (atxt (aOwn x n)), .str (rtxt (rB x y bb))])) = G14 at FC s hg1 htold0 hg2 hdue0 hva htold1p ⊢
  clear s
  refine ⟨told0, told1p, _, _, rfl, rfl, htold0, htold1p, (by show 4 + 3 ≤ sizeLine; decide), fun told1 ntold1 => ?_⟩
  have s := same_new ntold1 (.lst ([V.bl true, .bl true, .bl true, .ref g1] ++ [va, V.str (atxt (aOwn x n)), .str (rtxt (rB x y bb))]))
  have htold1 : (upd G14 told1 (.lst ([V.bl true, .bl true, .bl true, .ref g1] ++ [va, V.str (atxt (aOwn x n)), .str (rtxt (rB x y bb))]))) told1 = some (.lst [V.bl true, .bl true, .bl true, .ref g1, va, V.str (atxt (aOwn x n)), .str (rtxt (rB x y bb))]) := upd_same
  have e := Ext.same FC.tab s
  replace FC := FC.ext e
  replace hg1 := e.lst hg1
  replace htold0 := e.lst htold0
  replace hg2 := e.lst hg2
  replace hdue0 := e.lst hdue0
  replace hva := atAt_mono e.tups.1 hva
  replace htold1p := e.lst htold1p
  clear e
  generalize upd G14 told1 (.lst ([V.bl true, .bl true, .bl true, .ref g1] ++ [va, V.str (atxt (aOwn x n)), .str (rtxt (rB x y bb))])) = G15 at FC s hg1 htold0 hg2 hdue0 hva htold1p htold1 ⊢
  clear s
  clear htold1p htold0
  refine ⟨_, rfl, _, rfl, _, rfl, vo, x, (aOwn x n).ts, pa, [(m, .z)], rfl, FC.ao, own.two, fun t ht => Nat.le_trans (own.sm t ht).2 (by decide), FC.ap, FC.tab, fun vb G16 hvb e => ?_⟩
  replace FC := FC.ext e
  replace hg1 := e.lst hg1
  replace hg2 := e.lst hg2
  replace hdue0 := e.lst hdue0
  replace hva := atAt_mono e.tups.1 hva
  replace htold1 := e.lst htold1
  clear e
  replace hvb : AtAt G16 vb ⟨x, (aOwn x n).ts.map (Tm.put [(m, .z)])⟩ := hvb
  refine ⟨_, rfl, vo, aOwn x n, rfl, FC.ao, own5, fun G17 s => ?_⟩
  have e := Ext.same FC.tab s
  replace FC := FC.ext e
  replace hg1 := e.lst hg1
  replace hg2 := e.lst hg2
  replace hdue0 := e.lst hdue0
  replace hva := atAt_mono e.tups.1 hva
  replace htold1 := e.lst htold1
  replace hvb := atAt_mono e.tups.1 hvb
  clear e
  clear s
  refine ⟨_, rfl, v2, rB x y bb, rfl, FC.a2, okB, fun G18 s => ?_⟩
  have e := Ext.same FC.tab s
  replace FC := FC.ext e
  replace hg1 := e.lst hg1
  replace hg2 := e.lst hg2
  replace hdue0 := e.lst hdue0
  replace hva := atAt_mono e.tups.1 hva
  replace htold1 := e.lst htold1
  replace hvb := atAt_mono e.tups.1 hvb
  clear e
  clear s
  refine ⟨(by show 3 ≤ sizeLine; decide), fun due1p ndue1p => ?_⟩
  have s := same_new ndue1p (.lst ([vb, V.str (atxt (aOwn x n)), .str (rtxt (rB x y bb))]))
  have hdue1p : (upd G18 due1p (.lst ([vb, V.str (atxt (aOwn x n)), .str (rtxt (rB x y bb))]))) due1p = some (.lst [vb, V.str (atxt (aOwn x n)), .str (rtxt (rB x y bb))]) := upd_same
  have e := Ext.same FC.tab s
  replace FC := FC.ext e
  replace hg1 := e.lst hg1
  replace hg2 := e.lst hg2
  replace hdue0 := e.lst hdue0
  replace hva := atAt_mono e.tups.1 hva
  replace htold1 := e.lst htold1
  replace hvb := atAt_mono e.tups.1 hvb
  clear e
  generalize upd G18 due1p (.lst ([vb, V.str (atxt (aOwn x n)), .str (rtxt (rB x y bb))])) = G19 at FC s hg1 hg2 hdue0 hva htold1 hvb hdue1p ⊢
  clear s
  refine ⟨due0, due1p, _, _, rfl, rfl, hdue0, hdue1p, (by show 4 + 3 ≤ sizeLine; decide), fun due1 ndue1 => ?_⟩
  have s := same_new ndue1 (.lst ([V.bl true, .bl true, .bl true, .ref g2] ++ [vb, V.str (atxt (aOwn x n)), .str (rtxt (rB x y bb))]))
  have hdue1 : (upd G19 due1 (.lst ([V.bl true, .bl true, .bl true, .ref g2] ++ [vb, V.str (atxt (aOwn x n)), .str (rtxt (rB x y bb))]))) due1 = some (.lst [V.bl true, .bl true, .bl true, .ref g2, vb, V.str (atxt (aOwn x n)), .str (rtxt (rB x y bb))]) := upd_same
  have e := Ext.same FC.tab s
  replace FC := FC.ext e
  replace hg1 := e.lst hg1
  replace hg2 := e.lst hg2
  replace hdue0 := e.lst hdue0
  replace hva := atAt_mono e.tups.1 hva
  replace htold1 := e.lst htold1
  replace hvb := atAt_mono e.tups.1 hvb
  replace hdue1p := e.lst hdue1p
  clear e
  generalize upd G19 due1 (.lst ([V.bl true, .bl true, .bl true, .ref g2] ++ [vb, V.str (atxt (aOwn x n)), .str (rtxt (rB x y bb))])) = G20 at FC s hg1 hg2 hdue0 hva htold1 hvb hdue1p hdue1 ⊢
  clear s
  clear hdue1p hdue0
  refine ⟨_, rfl, ?_⟩
  refine ⟨_, rfl, vo, aOwn x n, rfl, FC.ao, own5, fun G21 s => ?_⟩
  have e := Ext.same FC.tab s
  replace FC := FC.ext e
  replace hg1 := e.lst hg1
  replace hg2 := e.lst hg2
  replace hva := atAt_mono e.tups.1 hva
  replace htold1 := e.lst htold1
  replace hvb := atAt_mono e.tups.1 hvb
  replace hdue1 := e.lst hdue1
  clear e
  clear s
  refine ⟨aOwn x n, rfl, own5, fun vc G22 hvc s => ?_⟩
  have e := Ext.same FC.tab s
  replace FC := FC.ext e
  replace hg1 := e.lst hg1
  replace hg2 := e.lst hg2
  replace hva := atAt_mono e.tups.1 hva
  replace htold1 := e.lst htold1
  replace hvb := atAt_mono e.tups.1 hvb
  replace hdue1 := e.lst hdue1
  clear e
  refine ⟨_, rfl, v2, rB x y bb, rfl, FC.a2, okB, fun G23 s => ?_⟩
  have e := Ext.same FC.tab s
  replace FC := FC.ext e
  replace hg1 := e.lst hg1
  replace hg2 := e.lst hg2
  replace hva := atAt_mono e.tups.1 hva
  replace htold1 := e.lst htold1
  replace hvb := atAt_mono e.tups.1 hvb
  replace hdue1 := e.lst hdue1
  replace hvc := atAt_mono e.tups.1 hvc
  clear e
  clear s
  refine ⟨rB x y bb, rfl, okB, fun vd G24 hvd s => ?_⟩
  have e := Ext.same FC.tab s
  replace FC := FC.ext e
  replace hg1 := e.lst hg1
  replace hg2 := e.lst hg2
  replace hva := atAt_mono e.tups.1 hva
  replace htold1 := e.lst htold1
  replace hvb := atAt_mono e.tups.1 hvb
  replace hdue1 := e.lst hdue1
  replace hvc := atAt_mono e.tups.1 hvc
  clear e
  refine ⟨(by show 2 ≤ sizeLine; decide), fun tp ntp => ?_⟩
  have s := same_new ntp (.lst ([vc, vd]))
  have htp : (upd G24 tp (.lst ([vc, vd]))) tp = some (.lst [vc, vd]) := upd_same
  have e := Ext.same FC.tab s
  replace FC := FC.ext e
  replace hg1 := e.lst hg1
  replace hg2 := e.lst hg2
  replace hva := atAt_mono e.tups.1 hva
  replace htold1 := e.lst htold1
  replace hvb := atAt_mono e.tups.1 hvb
  replace hdue1 := e.lst hdue1
  replace hvc := atAt_mono e.tups.1 hvc
  replace hvd := RuAt.mono e.tups.1 hvd
  clear e
  generalize upd G24 tp (.lst ([vc, vd])) = G25 at FC s hg1 hg2 hva htold1 hvb hdue1 hvc hvd htp ⊢
  clear s
  refine ⟨told1, tp, _, _, rfl, rfl, htold1, htp, (by show 7 + 2 ≤ sizeLine; decide), fun told2 ntold2 => ?_⟩
  have s := same_new ntold2 (.lst ([V.bl true, .bl true, .bl true, .ref g1, va, V.str (atxt (aOwn x n)), .str (rtxt (rB x y bb))] ++ [vc, vd]))
  have htold2 : (upd G25 told2 (.lst ([V.bl true, .bl true, .bl true, .ref g1, va, V.str (atxt (aOwn x n)), .str (rtxt (rB x y bb))] ++ [vc, vd]))) told2 = some (.lst [V.bl true, .bl true, .bl true, .ref g1, va, V.str (atxt (aOwn x n)), .str (rtxt (rB x y bb)), vc, vd]) := upd_same
  have e := Ext.same FC.tab s
  replace FC := FC.ext e
  replace hg1 := e.lst hg1
  replace hg2 := e.lst hg2
  replace hva := atAt_mono e.tups.1 hva
  replace htold1 := e.lst htold1
  replace hvb := atAt_mono e.tups.1 hvb
  replace hdue1 := e.lst hdue1
  replace hvc := atAt_mono e.tups.1 hvc
  replace hvd := RuAt.mono e.tups.1 hvd
  replace htp := e.lst htp
  clear e
  generalize upd G25 told2 (.lst ([V.bl true, .bl true, .bl true, .ref g1, va, V.str (atxt (aOwn x n)), .str (rtxt (rB x y bb))] ++ [vc, vd])) = G26 at FC s hg1 hg2 hva htold1 hvb hdue1 hvc hvd htp htold2 ⊢
  clear s
  clear htp htold1
  refine ⟨_, rfl, _, rfl, _, rfl, _, rfl, ?_⟩
  refine ⟨(by show 2 ≤ sizeLine; decide), fun dp ndp => ?_⟩
  have s := same_new ndp (.lst ([vo, v2]))
  have hdp : (upd G26 dp (.lst ([vo, v2]))) dp = some (.lst [vo, v2]) := upd_same
  have e := Ext.same FC.tab s
  replace FC := FC.ext e
  replace hg1 := e.lst hg1
  replace hg2 := e.lst hg2
  replace hva := atAt_mono e.tups.1 hva
  replace hvb := atAt_mono e.tups.1 hvb
  replace hdue1 := e.lst hdue1
  replace hvc := atAt_mono e.tups.1 hvc
  replace hvd := RuAt.mono e.tups.1 hvd
  replace htold2 := e.lst htold2
  clear e
  generalize upd G26 dp (.lst ([vo, v2])) = G27 at FC s hg1 hg2 hva hvb hdue1 hvc hvd htold2 hdp ⊢
  clear s
  refine ⟨due1, dp, _, _, rfl, rfl, hdue1, hdp, (by show 7 + 2 ≤ sizeLine; decide), fun due2 ndue2 => ?_⟩
  have s := same_new ndue2 (.lst ([V.bl true, .bl true, .bl true, .ref g2, vb, V.str (atxt (aOwn x n)), .str (rtxt (rB x y bb))] ++ [vo, v2]))
  have hdue2 : (upd G27 due2 (.lst ([V.bl true, .bl true, .bl true, .ref g2, vb, V.str (atxt (aOwn x n)), .str (rtxt (rB x y bb))] ++ [vo, v2]))) due2 = some (.lst [V.bl true, .bl true, .bl true, .ref g2, vb, V.str (atxt (aOwn x n)), .str (rtxt (rB x y bb)), vo, v2]) := upd_same
  have e := Ext.same FC.tab s
  replace FC := FC.ext e
  replace hg1 := e.lst hg1
  replace hg2 := e.lst hg2
  replace hva := atAt_mono e.tups.1 hva
  replace hvb := atAt_mono e.tups.1 hvb
  replace hdue1 := e.lst hdue1
  replace hvc := atAt_mono e.tups.1 hvc
  replace hvd := RuAt.mono e.tups.1 hvd
  replace htold2 := e.lst htold2
  replace hdp := e.lst hdp
  clear e
  generalize upd G27 due2 (.lst ([V.bl true, .bl true, .bl true, .ref g2, vb, V.str (atxt (aOwn x n)), .str (rtxt (rB x y bb))] ++ [vo, v2])) = G28 at FC s hg1 hg2 hva hvb hdue1 hvc hvd htold2 hdp hdue2 ⊢
  clear s
  have al : Alike G28 60 (.ref told2) (.ref due2) := by
    refine AlL.lst (n := 59) ?_ htold2 hdue2 (by show 9 ≤ 1000000; decide)
    refine AlL.cons (alike_plain trivial) (AlL.cons (alike_plain trivial) (AlL.cons (alike_plain trivial) (AlL.cons (AlL.lst (n := 58) (AlL.cons (a := .int n) (b := .int n) (alike_plain trivial) AlL.nil) hg1 hg2 (by show 1 ≤ 1000000; decide)) ?_)))
    refine AlL.cons ((alike_at (own_put nx n0 (by omega)) hva hvb).ups (by decide)) (AlL.cons (alike_plain trivial) (AlL.cons (alike_plain trivial) ?_))
    exact AlL.cons ((alike_at own5 hvc FC.ao).ups (by decide)) (AlL.cons ((alike_ru okB hvd FC.a2).ups (by decide)) AlL.nil)
  refine ⟨_, _, 60, rfl, rfl, al, fun G29 s => ⟨true, rfl, iteF ?_⟩⟩
  exact go _ _ _ (FC.same s)
end
end Rp

set_option maxHeartbeats 16000000
/-! The law k16: Definitions made and told. -/
namespace Rp
open PySem PySem.Spec PyProof.Rows L2 TL StX NdefX LamX PpSet
section
variable {P : Program} {w : World} {K : PySem.W.Frag} {mg : Str → Option Value} {base : Heap}
theorem lw_c {T : List NTab} {fI fTe fWo fE C CC CN q0 : Addr} {dI dTe dWo dE : FuncData} {f : Addr} {cdv : Value} {A : Around} {outer : List Env} {s0 : Shared} {H0 : Hp} {E : XK} {tR : TS}
    (D : DfK K C) (M : Mk K C fI) (mD : mg "Definitions" = some (.ref C)) (GI : FnOk P w K mg base (L2.CX P w) 5 fI dI ["self", "rules"] (spDInit K C CC)) (bI : Binds K dI ["self", "rules"] []) (bI0 : Binds K dI ["self", "rules"] [.ref q0]) (e0 : ∀ H' : Hp, SqT K H' q0 []) (qI : KBn K dI ["self", "rules"] 1 ["rules"] gjoin gjoin)
    (GTe : FnOk P w K mg base (L2.CX P w) 4 fTe dTe ["self", "rule"] (spTell C CC)) (tTe : Meth K C "tell" fTe) (bTe : Binds K dTe ["self", "rule"] []) (qTe : KBinds K dTe ["self", "rule"] ["rule"] gself gself)
    (GWo : FnOk P w K mg base CX0 1 fWo dWo ["self"] (spWordsM C)) (tWo : Meth K C "words" fWo) (bWo : Binds K dWo ["self"] [])
    (GE : FnOk P w K mg base CX0 1 fE dE ["self", "other"] (spEq (SameD C))) (bE : Binds K dE ["self", "other"] []) (EM : EqM K C fE)
    (mLen : mg "len" = none) (hr : Room 61 (LX P w K mg base f cdv A outer s0 H0 E).A) (hR : PSs (LX P w K mg base f cdv A outer s0 H0 E) (lwB.drop 13) tR) :
    ∃ t : TS, PSs (LX P w K mg base f cdv A outer s0 H0 E) (lwB.drop 11) t ∧ ∀ (En : L2.Ends) (x y : Str) (bb : Bool) (n m : Int) (v1 v2 vo : V) (pa a pc : Addr) (cs : List V) (k b lt z11 z12 z13 z14 z15 : Option V) (G0 : Hp), NameOk x → NameOk y → x ≠ y → 0 ≤ n → n < 9 → Fc T pc cs x y bb n m v1 v2 vo pa G0 →
      (∀ (xb xm lm : Addr) (kvs : KVs) (G' : Hp), Fc T pc cs x y bb n m v1 v2 vo pa G' → Mdx C x y v1 v2 xm lm kvs G' → tR En [some (.ref a), some (.ref pc), k, b, lt, some (.str x), some (.str y), some v1, some v2, some vo, some (.ref pa), z11, z12, some (.ref xb), some (.ref xm), z15] G') → t En [some (.ref a), some (.ref pc), k, b, lt, some (.str x), some (.str y), some v1, some v2, some vo, some (.ref pa), z11, z12, z13, z14, z15] G0 := by
  have r1 : Room 1 _ := hr.mono (by decide)
  have r2 : Room 2 _ := hr.mono (by decide)
  have r4 : Room 4 _ := hr.mono (by decide)
  have r5 : Room 5 _ := hr.mono (by decide)
  have r6 : Room 6 _ := hr.mono (by decide)
  have r7 : Room 7 _ := hr.mono (by decide)
  have r8 : Room 8 _ := hr.mono (by decide)
  have r9 : Room 9 _ := hr.mono (by decide)
  have r10 : Room 10 _ := hr.mono (by decide)
  refine ⟨_, pss_cons (ps_par (i := 13) (j := 14) rfl scLaw.nd rfl rfl (by decide) rfl rfl (pa_cons (pe_make0 (dvs := [.ref q0]) M GI r6 (by rfl) mD bI0 (.cons rfl .nil) passZ) (pa_cons (pe_makeK0 M GI r6 (by rfl) mD qI passZ (pk_cons (pe_lst (pa_cons (pv 7) (pa_cons (pv 8) pa_nil))) pk_nil)) pa_nil)) (by rfl))
      (pss_cons (ps_if (PW.pt (pw_or (pt_not (pt_cmpR (op_eqG (rcG_ins GE EM.eq EM.fn bE pass0) r1) (pv 13) (pe_make M GI r6 (by rfl) mD bI .nil passZ (pa_cons (pe_tup pa_nil) pa_nil)) (nomark _)))
          (pw_or (pt_cmpR op_ne (pe_methKw (pv 14) D.cls tTe GTe r4 qTe passZ (pk_cons (pv 7) pk_nil)) pe_int (nomark _))
          (pw_or (pt_cmpR op_ne (pe_meth (pv 13) D.cls tTe GTe r4 bTe .nil passZ (pa_cons (pv 7) pa_nil)) pe_int (nomark _))
          (pw_or1 (pt_cmpR op_ne (pe_callB call_len_seq (by rfl) mLen PySem.boot_len (pa_cons (pe_meth0 (pv 13) D.cls tWo GWo r1 bWo .nil pass0) pa_nil)) pe_int (nomark _))))))) (pss_one (ps_ret pe_bl)) pss_nil) hR), fun En x y bb n m v1 v2 vo pa a pc cs k b lt z11 z12 z13 z14 z15 G0 nx ny ne n0 n1 FC go => ?_⟩
  have okB := rB_ok (b := bb) nx ny
  have ok3 : ∀ r ∈ [rA x, rB x y bb, rA x], RuOk r := by
    intro r hr; simp only [List.mem_cons, List.not_mem_nil, or_false] at hr
    rcases hr with rfl | rfl | rfl <;> first | exact rA_ok nx | exact okB
  have rb3 : ∀ r ∈ [rA x, rB x y bb, rA x], r.bd.length ≤ 9 := fun r hr => by have := (ok3 r hr).bd.few; omega
  have ft3 : ∀ r ∈ [rA x, rB x y bb, rA x], Fits x y r := by
    intro r hr; simp only [List.mem_cons, List.not_mem_nil, or_false] at hr
    rcases hr with rfl | rfl | rfl <;> first | exact rA_fits ne | exact rB_fits ne
  have cn3 := (kn_all (Kn.nil (x := x) (y := y)) (fits_all ft3)).1
  have ok2 : ∀ r ∈ [rA x, rB x y bb], RuOk r := fun r hr => ok3 r (by simp only [List.mem_cons, List.not_mem_nil, or_false] at hr ⊢; rcases hr with h | h <;> simp [h])
  have rb2 : ∀ r ∈ [rA x, rB x y bb], r.bd.length ≤ 9 := fun r hr => by have := (ok2 r hr).bd.few; omega
  have ft2 : ∀ r ∈ [rA x, rB x y bb], Fits x y r := fun r hr => ft3 r (by simp only [List.mem_cons, List.not_mem_nil, or_false] at hr ⊢; rcases hr with h | h <;> simp [h])
  have kA := kn_all (Kn.nil (x := x) (y := y)) (fits_all ft2)
  have cn2 := kA.1
  have kn2 := kA.2.1
  have vB := kA.2.2.2 (rB x y bb).hd (List.mem_flatMap.mpr ⟨rB x y bb, by simp, by simp⟩)
  have vA := kA.2.2.2 (rA x).hd (List.mem_flatMap.mpr ⟨rA x, by simp, by simp⟩)
  have le2 := Nat.le_trans kn2.le (Nat.add_le_add_left (allAts_le rb2) 0)
  clear kA
  obtain ⟨kv2, ek2⟩ : ∃ k, k = knows [] (allAts [rA x, rB x y bb]) := ⟨_, rfl⟩
  rw [← ek2] at kn2 vA vB le2
  replace le2 : kv2.length ≤ 20 := le2
  refine fun xb db nxb ndb ndx => ?_
  have sm : Same G0 (upd (upd G0 db (.own xb)) xb (.ins C db [])) := fun c u z => by rw [upd_ne (ne_of_none z nxb), upd_ne (ne_of_none z ndb)]; exact z
  have hxm : (upd (upd G0 db (.own xb)) xb (.ins C db [])) xb = some (.ins C db []) := upd_same
  generalize upd (upd G0 db (.own xb)) xb (.ins C db []) = G1 at sm hxm ⊢
  refine ⟨xb, q0, db, [], [], rfl, hxm, .inr (.inr ⟨rfl, e0⟩), trivial, by simp, by simp, fun _ lb G2 nlb DB ob => ⟨rfl, ?_⟩, fun z cz => (by cases cz)⟩
  have pcb : pc ≠ lb := ne_of_none (sm _ _ FC.hpc) nlb
  have s : Same G0 G2 := fun c u z => ob _ _ (sm _ _ z) (ne_of_none z nxb)
  replace FC := FC.same s
  replace DB : DfAt C G2 xb lb [] [] := DB
  clear sm hxm ob s
  refine ⟨_, rfl, _, rfl, (by show 2 ≤ sizeLine; decide), fun lr nlr => ?_⟩
  have s := same_new nlr (.lst [v1, v2])
  have hlr : (upd G2 lr (.lst [v1, v2])) lr = some (.lst [v1, v2]) := upd_same
  replace FC := FC.same s
  replace DB := DB.same' s
  generalize upd G2 lr (.lst [v1, v2]) = G3 at s FC DB hlr ⊢
  clear s
  refine ⟨rfl, rfl, fun xm dm nxm ndm ndx => ?_⟩
  have sm : Same G3 (upd (upd G3 dm (.own xm)) xm (.ins C dm [])) := fun c u z => by rw [upd_ne (ne_of_none z nxm), upd_ne (ne_of_none z ndm)]; exact z
  have hxm : (upd (upd G3 dm (.own xm)) xm (.ins C dm [])) xm = some (.ins C dm []) := upd_same
  generalize upd (upd G3 dm (.own xm)) xm (.ins C dm []) = G4 at sm hxm ⊢
  refine ⟨xm, lr, dm, [v1, v2], [rA x, rB x y bb], rfl, hxm, .inl (sm _ _ hlr), ⟨FC.a1.same sm, FC.a2.same sm, trivial⟩, (by show 2 ≤ 80; decide), rb2, fun _ lm G5 nlm DM om => ⟨rfl, ?_⟩, fun z cz => (by rw [cn2] at cz; cases cz)⟩
  obtain ⟨_, _, hb1, hb2, _⟩ := id DB
  have nxx : xb ≠ xm := ne_of_none hb1 nxm
  have nll : lb ≠ lm := ne_of_none (sm _ _ hb2) nlm
  have pcm : pc ≠ lm := ne_of_none (sm _ _ FC.hpc) nlm
  clear hb1 hb2
  have s : Same G3 G5 := fun c u z => om _ _ (sm _ _ z) (ne_of_none z nxm)
  replace FC := FC.same s
  replace DB := DB.same' s
  clear sm hxm om s hlr
  rw [← ek2] at DM
  refine ⟨_, _, rfl, ?_⟩
  refine ⟨_, rfl, ?_⟩
  refine ⟨(by show 0 ≤ sizeLine; decide), fun te nte => ?_⟩
  have s := same_new nte (.tup ([] : List V))
  have hte : (upd G5 te (.tup ([] : List V))) te = some (.tup []) := upd_same
  replace FC := FC.same s
  replace DB := DB.same' s
  replace DM := DM.same' s
  generalize upd G5 te (.tup ([] : List V)) = G6 at s FC DB DM hte ⊢
  clear s
  refine fun xe de nxe nde ndx => ?_
  have sm : Same G6 (upd (upd G6 de (.own xe)) xe (.ins C de [])) := fun c u z => by rw [upd_ne (ne_of_none z nxe), upd_ne (ne_of_none z nde)]; exact z
  have hxm : (upd (upd G6 de (.own xe)) xe (.ins C de [])) xe = some (.ins C de []) := upd_same
  generalize upd (upd G6 de (.own xe)) xe (.ins C de []) = G7 at sm hxm ⊢
  refine ⟨xe, te, de, [], [], rfl, hxm, .inr (.inl (sm _ _ hte)), trivial, by simp, by simp, fun _ le G8 nle DE oe => ⟨rfl, ?_⟩, fun z cz => (by cases cz)⟩
  have s : Same G6 G8 := fun c u z => oe _ _ (sm _ _ z) (ne_of_none z nxe)
  replace FC := FC.same s
  replace DB := DB.same' s
  replace DM := DM.same' s
  clear sm hxm oe s hte
  obtain ⟨dxb, dtb, hb1, hb2, hb3⟩ := id DB
  obtain ⟨dxe, dte, he1, he2, he3⟩ := id DE
  refine ⟨⟨xb, xe, dxb, dxe, _, _, rfl, rfl, hb1, he1, lb, le, [], [], [], _, _, DB, DE, trivial, trivial, by simp⟩, fun G9 s => ⟨true, rfl, iteF ?_⟩⟩
  replace FC := FC.same s
  replace DB := DB.same' s
  replace DM := DM.same' s
  clear s hb1 hb2 hb3 he1 he2 he3 DE
  obtain ⟨dxm, dtm, hm1, hm2, hm3⟩ := id DM
  have kB := kn_all kn2 (rA_fits (x := x) ne)
  have cnT := kB.1
  have kn3 := kB.2.1
  have vB3 := kB.2.2.1 _ _ vB
  have vA3 := kB.2.2.1 _ _ vA
  clear kB vA vB
  refine ⟨_, rfl, xm, dxm, _, rfl, hm1, dfF_no (by decide +kernel) (by decide +kernel), _, rfl, xm, lm, [v1, v2], [rA x, rB x y bb], kv2, v1, rA x, rfl, DM, ⟨FC.a1, FC.a2, trivial⟩, (by show 2 ≤ 800; decide), kn2.kd, (by omega), (by have := (rA_ok nx).bd.few; omega), FC.a1, fun _ G10 DM3 o2 => ?_, fun z cz => (by rw [cnT] at cz; cases cz)⟩
  have DB3 := DB.but2 DM nxx nll o2
  replace FC := FC.but2 hm1 hm2 pcm o2
  clear DB DM hm1 hm2 hm3 o2
  replace DM3 : DfAt C G10 xm lm [v1, v2, v1] (knows kv2 ((rA x).hd :: (rA x).bd)) := DM3
  have le3 := knows_le (kvs := kv2) (as := (rA x).hd :: (rA x).bd)
  rw [show ((rA x).hd :: (rA x).bd).length = 2 from rfl] at le3
  obtain ⟨kv3, ek3⟩ : ∃ k, k = knows kv2 ((rA x).hd :: (rA x).bd) := ⟨_, rfl⟩
  rw [← ek3] at DM3 kn3 vA3 vB3 le3
  refine ⟨rfl, false, (by rw [show picked (rA x).hd.nm [v1, v2] [rA x, rB x y bb] = [v1] from picked_two ne]; rfl), iteF ?_⟩
  obtain ⟨dxb, dtb, hb1, hb2, hb3⟩ := id DB3
  have cnB := (kn_all (Kn.nil (x := x) (y := y)) (rA_fits (x := x) ne)).1
  refine ⟨_, rfl, xb, dxb, _, rfl, hb1, dfF_no (by decide +kernel) (by decide +kernel), _, rfl, xb, lb, [], [], [], v1, rA x, rfl, DB3, trivial, by simp, Kd.nil, by simp, (by have := (rA_ok nx).bd.few; omega), FC.a1, fun _ G11 DB4 o2 => ?_, fun z cz => (by rw [cnB] at cz; cases cz)⟩
  have DM4 := DM3.but2 DB3 nxx.symm nll.symm o2
  replace FC := FC.but2 hb1 hb2 pcb o2
  clear DB3 DM3 hb1 hb2 hb3 o2
  replace DB4 : DfAt C G11 xb lb [v1] (knows [] ((rA x).hd :: (rA x).bd)) := DB4
  rw [knA] at DB4
  refine ⟨rfl, false, rfl, iteF ?_⟩
  obtain ⟨dxb, dtb, hb1, hb2, hb3⟩ := id DB4
  refine ⟨_, rfl, xb, dxb, _, rfl, hb1, dfF_no (by decide +kernel) (by decide +kernel), xb, lb, _, _, [x], rfl, DB4, rfl, (by show 1 < 64; decide), fun ys q1 G12 pm _ _ hq1 s => ?_⟩
  refine ⟨q1, _, rfl, .inl (.inl (.inl hq1)), rfl, false, (by rw [List.length_map, pm.length_eq]; rfl), iteF ?_⟩
  exact go _ _ _ _ _ (FC.same s) ⟨DM4.same' s, kn3.kd, by omega, vA3, vB3⟩
end
end Rp

set_option maxHeartbeats 16000000
/-! The law k16: what Definitions tell. -/
namespace Rp
open PySem PySem.Spec PyProof.Rows L2 TL StX NdefX LamX PpSet
section
variable {P : Program} {w : World} {K : PySem.W.Frag} {mg : Str → Option Value} {base : Heap}
theorem lw_d {T : List NTab} {fI fRl fTr fWi fAll fS C CC CN q0 : Addr} {dI dRl dTr dWi dAll dS : FuncData} {f : Addr} {cdv : Value} {A : Around} {outer : List Env} {s0 : Shared} {H0 : Hp} {E : XK} {tR : TS}
    (D : DfK K C) (M : Mk K C fI) (mD : mg "Definitions" = some (.ref C)) (GI : FnOk P w K mg base (L2.CX P w) 5 fI dI ["self", "rules"] (spDInit K C CC)) (bI : Binds K dI ["self", "rules"] []) (bI0 : Binds K dI ["self", "rules"] [.ref q0]) (e0 : ∀ H' : Hp, SqT K H' q0 []) (qI : KBn K dI ["self", "rules"] 1 ["rules"] gjoin gjoin)
    (GRl : FnOk P w K mg base CX0 1 fRl dRl ["self", "word"] (spRulesM C)) (tRl : Meth K C "rules" fRl) (qRl : KBinds K dRl ["self", "word"] ["word"] gself gself)
    (GTr : FnOk P w K mg base CX0 1 fTr dTr ["self", "word"] (spTermsM C)) (tTr : Meth K C "terms" fTr) (qTr : KBinds K dTr ["self", "word"] ["word"] gself gself)
    (GWi : FnOk P w K mg base (L2.CX P w) 7 fWi dWi ["self", "place"] (spWithout C CN)) (tWi : Meth K C "without" fWi) (qWi : KBinds K dWi ["self", "place"] ["place"] gself gself)
    (GAll : FnOk P w K mg base CX0 1 fAll dAll ["self"] (spAllR C)) (tAll : Meth K C "all_rules" fAll) (bAll : Binds K dAll ["self"] [])
    (GS : FnOk P w K mg base CX0 61 fS dS ["_law_found", "_law_due"] (spSame 61)) (kS : PySem.W.keepIn K (.ref fS) = true) (bS : Binds K dS ["_law_found", "_law_due"] []) (mS : mg "_law_same" = some (.ref fS))
    (mLen : mg "len" = none) (hr : Room 61 (LX P w K mg base f cdv A outer s0 H0 E).A) (hR : PSs (LX P w K mg base f cdv A outer s0 H0 E) (lwB.drop 15) tR) :
    ∃ t : TS, PSs (LX P w K mg base f cdv A outer s0 H0 E) (lwB.drop 13) t ∧ ∀ (En : L2.Ends) (x y : Str) (bb : Bool) (n m : Int) (v1 v2 vo : V) (pa a pc : Addr) (cs : List V) (k b lt z11 z12 z13 z14 z15 : Option V) (G0 : Hp) (xm lm : Addr) (kvs : KVs), NameOk x → NameOk y → x ≠ y → 0 ≤ n → n < 9 → Fc T pc cs x y bb n m v1 v2 vo pa G0 →
      Mdx C x y v1 v2 xm lm kvs G0 → (∀ (z11 : Option V) (G' : Hp), Fc T pc cs x y bb n m v1 v2 vo pa G' → Mdx C x y v1 v2 xm lm kvs G' → tR En [some (.ref a), some (.ref pc), k, b, lt, some (.str x), some (.str y), some v1, some v2, some vo, some (.ref pa), z11, z12, z13, some (.ref xm), z15] G') → t En [some (.ref a), some (.ref pc), k, b, lt, some (.str x), some (.str y), some v1, some v2, some vo, some (.ref pa), z11, z12, z13, some (.ref xm), z15] G0 := by
  have r1 : Room 1 _ := hr.mono (by decide)
  have r2 : Room 2 _ := hr.mono (by decide)
  have r4 : Room 4 _ := hr.mono (by decide)
  have r5 : Room 5 _ := hr.mono (by decide)
  have r6 : Room 6 _ := hr.mono (by decide)
  have r7 : Room 7 _ := hr.mono (by decide)
  have r8 : Room 8 _ := hr.mono (by decide)
  have r9 : Room 9 _ := hr.mono (by decide)
  have r10 : Room 10 _ := hr.mono (by decide)
  refine ⟨_, pss_cons (ps_set (i := 11) scLaw.nd rfl (Or.inl rfl) (pe_lst (pa_cons (pe_methKw (pv 14) D.cls tRl GRl r1 qRl pass0 (pk_cons (pv 5) pk_nil)) (pa_cons (pe_methKw (pv 14) D.cls tTr GTr r1 qTr pass0 (pk_cons (pv 6) pk_nil)) (pa_cons (pe_meth0 (pe_methKw (pv 14) D.cls tWi GWi r7 qWi passZ (pk_cons pe_int pk_nil)) D.cls tAll GAll r1 bAll .nil pass0) pa_nil)))))
      (pss_cons (ps_if (pt_not (pt_val (pe_call GS hr (by rfl) mS kS bS .nil pass0 (pa_cons (pv 11) (pa_cons (pe_lst (pa_cons (pe_lst (pa_cons (pv 7) (pa_cons (pv 7) pa_nil))) (pa_cons pe_int (pa_cons (pe_lst (pa_cons (pv 7) (pa_cons (pv 7) pa_nil))) pa_nil)))) pa_nil))))) (pss_one (ps_ret pe_bl)) pss_nil) hR), fun En x y bb n m v1 v2 vo pa a pc cs k b lt z11 z12 z13 z14 z15 G0 xm lm kvs nx ny ne n0 n1 FC MD go => ?_⟩
  have okB := rB_ok (b := bb) nx ny
  have ok3 : ∀ r ∈ [rA x, rB x y bb, rA x], RuOk r := by
    intro r hr; simp only [List.mem_cons, List.not_mem_nil, or_false] at hr
    rcases hr with rfl | rfl | rfl <;> first | exact rA_ok nx | exact okB
  have rb3 : ∀ r ∈ [rA x, rB x y bb, rA x], r.bd.length ≤ 9 := fun r hr => by have := (ok3 r hr).bd.few; omega
  have ft3 : ∀ r ∈ [rA x, rB x y bb, rA x], Fits x y r := by
    intro r hr; simp only [List.mem_cons, List.not_mem_nil, or_false] at hr
    rcases hr with rfl | rfl | rfl <;> first | exact rA_fits ne | exact rB_fits ne
  have cn3 := (kn_all (Kn.nil (x := x) (y := y)) (fits_all ft3)).1
  have ftA : ∀ r ∈ [rA x, rA x], Fits x y r := fun r hr => ft3 r (by simp only [List.mem_cons, List.not_mem_nil, or_false] at hr ⊢; rcases hr with h | h <;> simp [h])
  have cnA := (kn_all (Kn.nil (x := x) (y := y)) (fits_all ftA)).1
  obtain ⟨DM4, kd3, le3, vA3, vB3⟩ := MD
  obtain ⟨dxm, dtm, hm1, hm2, hm3⟩ := id DM4
  refine ⟨_, rfl, xm, dxm, _, rfl, hm1, dfF_no (by decide +kernel) (by decide +kernel), _, rfl, xm, lm, _, [rA x, rB x y bb, rA x], _, x, rfl, DM4, ⟨FC.a1, FC.a2, FC.a1, trivial⟩, (by show 3 ≤ 900; decide), fun q1 G1 _ hq1 s => ?_⟩
  rw [picked_three ne] at hq1
  replace FC := FC.same s
  replace DM4 := DM4.same' s
  replace hm1 := s _ _ hm1
  clear s hm2 hm3
  refine ⟨_, rfl, xm, dxm, _, rfl, hm1, dfF_no (by decide +kernel) (by decide +kernel), _, rfl, xm, lm, _, _, y, rfl, DM4, ?_⟩
  have v2y : (valV kvs (.inr y)).getD .non = V.int 2 := by rw [vB3]; rfl
  rw [v2y]
  refine ⟨_, rfl, xm, dxm, _, rfl, hm1, dfF_no (by decide +kernel) (by decide +kernel), xm, lm, _, [rA x, rB x y bb, rA x], _, 1, rfl, DM4, ⟨FC.a1, FC.a2, FC.a1, trivial⟩, (by show 3 ≤ 80; decide), rb3, fun _ => ⟨cnA, fun p2 l2 G2 DW s => ?_⟩, fun w => absurd w (by show ¬ (3 ≤ 1); decide)⟩
  replace FC := FC.same s
  replace DM4 := DM4.same' s
  replace hm1 := s _ _ hm1
  replace hq1 := s _ _ hq1
  clear s
  obtain ⟨dxw, dtw, hw1, hw2, hw3⟩ := id DW
  refine ⟨p2, dxw, _, rfl, hw1, dfF_no (by decide +kernel) (by decide +kernel), p2, l2, _, _, rfl, DW, (by show 2 ≤ 900; decide), fun q2 G3 _ hq2 s => ?_⟩
  replace hq2 : G3 q2 = some (.lst [v1, v1]) := hq2
  replace FC := FC.same s
  replace DM4 := DM4.same' s
  replace hm1 := s _ _ hm1
  replace hq1 := s _ _ hq1
  clear DW hw1 hw2 hw3 s
  refine ⟨(by show 3 ≤ sizeLine; decide), fun tl ntl => ?_⟩
  have s := same_new ntl (.lst [V.ref q1, .int 2, .ref q2])
  have htl : (upd G3 tl (.lst [V.ref q1, .int 2, .ref q2])) tl = some (.lst [V.ref q1, .int 2, .ref q2]) := upd_same
  replace FC := FC.same s
  replace DM4 := DM4.same' s
  replace hm1 := s _ _ hm1
  replace hq1 := s _ _ hq1
  replace hq2 := s _ _ hq2
  generalize upd G3 tl (.lst [V.ref q1, .int 2, .ref q2]) = G4 at s FC DM4 hm1 hq1 hq2 htl ⊢
  clear s
  refine ⟨_, rfl, _, rfl, _, rfl, (by show 2 ≤ sizeLine; decide), fun l1 nl1 => ?_⟩
  have s := same_new nl1 (.lst [v1, v1])
  have hl1 : (upd G4 l1 (.lst [v1, v1])) l1 = some (.lst [v1, v1]) := upd_same
  replace FC := FC.same s
  replace DM4 := DM4.same' s
  replace hm1 := s _ _ hm1
  replace hq1 := s _ _ hq1
  replace hq2 := s _ _ hq2
  replace htl := s _ _ htl
  generalize upd G4 l1 (.lst [v1, v1]) = G5 at s FC DM4 hm1 hq1 hq2 htl hl1 ⊢
  clear s
  refine ⟨_, rfl, _, rfl, (by show 2 ≤ sizeLine; decide), fun l3 nl3 => ?_⟩
  have s := same_new nl3 (.lst [v1, v1])
  have hl3 : (upd G5 l3 (.lst [v1, v1])) l3 = some (.lst [v1, v1]) := upd_same
  replace FC := FC.same s
  replace DM4 := DM4.same' s
  replace hm1 := s _ _ hm1
  replace hq1 := s _ _ hq1
  replace hq2 := s _ _ hq2
  replace htl := s _ _ htl
  replace hl1 := s _ _ hl1
  generalize upd G5 l3 (.lst [v1, v1]) = G6 at s FC DM4 hm1 hq1 hq2 htl hl1 hl3 ⊢
  clear s
  refine ⟨(by show 3 ≤ sizeLine; decide), fun l4 nl4 => ?_⟩
  have s := same_new nl4 (.lst [V.ref l1, .int 2, .ref l3])
  have hl4 : (upd G6 l4 (.lst [V.ref l1, .int 2, .ref l3])) l4 = some (.lst [V.ref l1, .int 2, .ref l3]) := upd_same
  replace FC := FC.same s
  replace DM4 := DM4.same' s
  replace hm1 := s _ _ hm1
  replace hq1 := s _ _ hq1
  replace hq2 := s _ _ hq2
  replace htl := s _ _ htl
  replace hl1 := s _ _ hl1
  replace hl3 := s _ _ hl3
  generalize upd G6 l4 (.lst [V.ref l1, .int 2, .ref l3]) = G7 at s FC DM4 hm1 hq1 hq2 htl hl1 hl3 hl4 ⊢
  clear s
  have al : Alike G7 60 (.ref tl) (.ref l4) := by
    have au := alike_ru (rA_ok nx) FC.a1 FC.a1
    have two : ∀ q q' : Addr, G7 q = some (.lst [v1, v1]) → G7 q' = some (.lst [v1, v1]) → Alike G7 59 (.ref q) (.ref q') := fun q q' h1 h2 => AlL.lst (n := 58) (AlL.cons (au.ups (by decide)) (AlL.cons (au.ups (by decide)) AlL.nil)) h1 h2 (by show 2 ≤ 1000000; decide)
    exact AlL.lst (n := 59) (AlL.cons (two _ _ hq1 hl1) (AlL.cons (a := .int 2) (b := .int 2) (alike_plain trivial) (AlL.cons (two _ _ hq2 hl3) AlL.nil))) htl hl4 (by show 3 ≤ 1000000; decide)
  refine ⟨_, _, 60, rfl, rfl, al, fun G8 s => ⟨true, rfl, iteF ?_⟩⟩
  exact go _ _ (FC.same s) ⟨DM4.same' s, kd3, le3, vA3, vB3⟩
end
end Rp

set_option maxHeartbeats 16000000
/-! The law k16: the texts of Definitions, what is refused. -/
namespace Rp
open PySem PySem.Spec PyProof.Rows L2 TL StX NdefX LamX PpSet
section
variable {P : Program} {w : World} {K : PySem.W.Frag} {mg : Str → Option Value} {base : Heap}
theorem lw_e {T : List NTab} {fI fDT fDI fTw fE fRf C CC CN q0 : Addr} {dI dDT dDI dTw dE dRf : FuncData} {f : Addr} {cdv : Value} {A : Around} {outer : List Env} {s0 : Shared} {H0 : Hp} {E : XK}
    (D : DfK K C) (M : Mk K C fI) (mD : mg "Definitions" = some (.ref C)) (GI : FnOk P w K mg base (L2.CX P w) 5 fI dI ["self", "rules"] (spDInit K C CC)) (bI : Binds K dI ["self", "rules"] []) (bI0 : Binds K dI ["self", "rules"] [.ref q0]) (e0 : ∀ H' : Hp, SqT K H' q0 []) (qI : KBn K dI ["self", "rules"] 1 ["rules"] gjoin gjoin)
    (GDT : FnOk P w K mg base CX0 8 fDT dDT ["defs"] (spDefsText C)) (kDT : PySem.W.keepIn K (.ref fDT) = true) (bDT : Binds K dDT ["defs"] []) (qDT : KBinds K dDT ["defs"] ["defs"] gcat gcat) (mDT : mg "definitions_text" = some (.ref fDT))
    (GDI : FnOk P w K mg base CX0 10 fDI dDI ["text"] (spDefsIn C)) (kDI : PySem.W.keepIn K (.ref fDI) = true) (qDI : KBinds K dDI ["text"] ["text"] gcat gcat) (mDI : mg "definitions_in" = some (.ref fDI))
    (GTw : FnOk P w K mg base CX0 7 fTw dTw ["self"] (spTwin C)) (tTw : Meth K C "twin" fTw) (bTw : Binds K dTw ["self"] [])
    (GE : FnOk P w K mg base CX0 1 fE dE ["self", "other"] (spEq (SameD C))) (bE : Binds K dE ["self", "other"] []) (EM : EqM K C fE)
    (GRf : FnOk P w K mg base CX0 8 fRf dRf ["_law_made", "_law_one", "_law_way"] (spRefused C)) (kRf : PySem.W.keepIn K (.ref fRf) = true) (bRf : Binds K dRf ["_law_made", "_law_one", "_law_way"] []) (mRf : mg "_law_refused" = some (.ref fRf))
    (mLen : mg "len" = none) (hr : Room 61 (LX P w K mg base f cdv A outer s0 H0 E).A) :
    ∃ t : TS, PSs (LX P w K mg base f cdv A outer s0 H0 E) (lwB.drop 15) t ∧ ∀ (En : L2.Ends) (x y : Str) (bb : Bool) (n m : Int) (v1 v2 vo : V) (pa a pc : Addr) (cs : List V) (k b lt z11 z12 z13 z14 z15 : Option V) (G0 : Hp) (xm lm : Addr) (kvs : KVs), NameOk x → NameOk y → x ≠ y → 0 ≤ n → n < 9 → Fc T pc cs x y bb n m v1 v2 vo pa G0 →
      Mdx C x y v1 v2 xm lm kvs G0 → (∀ (z15 : Option V) (G' : Hp), Fc T pc cs x y bb n m v1 v2 vo pa G' → En.nx [some (.ref a), some (.ref pc), k, b, lt, some (.str x), some (.str y), some v1, some v2, some vo, some (.ref pa), z11, z12, z13, some (.ref xm), z15] G') → t En [some (.ref a), some (.ref pc), k, b, lt, some (.str x), some (.str y), some v1, some v2, some vo, some (.ref pa), z11, z12, z13, some (.ref xm), z15] G0 := by
  have r1 : Room 1 _ := hr.mono (by decide)
  have r2 : Room 2 _ := hr.mono (by decide)
  have r4 : Room 4 _ := hr.mono (by decide)
  have r5 : Room 5 _ := hr.mono (by decide)
  have r6 : Room 6 _ := hr.mono (by decide)
  have r7 : Room 7 _ := hr.mono (by decide)
  have r8 : Room 8 _ := hr.mono (by decide)
  have r9 : Room 9 _ := hr.mono (by decide)
  have r10 : Room 10 _ := hr.mono (by decide)
  refine ⟨_, pss_cons (ps_set (i := 15) scLaw.nd rfl (Or.inl rfl) (pe_callKw GDT r8 (by rfl) mDT kDT qDT pass0 (pk_cons (pv 14) pk_nil)))
      (pss_cons (ps_if (PW.pt (pw_or (pt_cmpR op_ne (pv 15) (pe_call GDT r8 (by rfl) mDT kDT bDT .nil pass0 (pa_cons (pv 14) pa_nil)) (nomark _))
          (pw_or (pt_not (pt_cmpR (op_eqG (rcG_ins GE EM.eq EM.fn bE pass0) r1) (pe_callKw GDI r10 (by rfl) mDI kDI qDI pass0 (pk_cons (pv 15) pk_nil)) (pv 14) (nomark _)))
          (pw_or1 (pt_cmpR (op_neI GE EM.eq EM.fn EM.ne EM.ob bE pass0 r2) (pe_meth0 (pv 14) D.cls tTw GTw r7 bTw .nil pass0) (pv 14) (nomark _)))))) (pss_one (ps_ret pe_bl)) pss_nil)
      (pss_one (ps_if (PW.pt (pw_or (pt_cmpR (op_neD hr.units) (pe_call GRf r8 (by rfl) mRf kRf bRf .nil pass0 (pa_cons (pv 14) (pa_cons (pv 5) (pa_cons pe_int pa_nil)))) (pe_lst (pa_cons pe_bl (pa_cons (pv 5) pa_nil))) (nomark _))
          (pw_or1 (pt_cmpR (op_neD hr.units) (pe_call GRf r8 (by rfl) mRf kRf bRf .nil pass0 (pa_cons (pv 14) (pa_cons (pv 5) (pa_cons pe_int pa_nil)))) (pe_lst (pa_cons pe_bl (pa_cons pe_int pa_nil))) (nomark _))))) (pss_one (ps_ret pe_bl)) pss_nil))), fun En x y bb n m v1 v2 vo pa a pc cs k b lt z11 z12 z13 z14 z15 G0 xm lm kvs nx ny ne n0 n1 FC MD go => ?_⟩
  have okB := rB_ok (b := bb) nx ny
  have ok3 : ∀ r ∈ [rA x, rB x y bb, rA x], RuOk r := by
    intro r hr; simp only [List.mem_cons, List.not_mem_nil, or_false] at hr
    rcases hr with rfl | rfl | rfl <;> first | exact rA_ok nx | exact okB
  have rb3 : ∀ r ∈ [rA x, rB x y bb, rA x], r.bd.length ≤ 9 := fun r hr => by have := (ok3 r hr).bd.few; omega
  have ft3 : ∀ r ∈ [rA x, rB x y bb, rA x], Fits x y r := by
    intro r hr; simp only [List.mem_cons, List.not_mem_nil, or_false] at hr
    rcases hr with rfl | rfl | rfl <;> first | exact rA_fits ne | exact rB_fits ne
  have cn3 := (kn_all (Kn.nil (x := x) (y := y)) (fits_all ft3)).1
  obtain ⟨DM4, kd3, le3, vA3, vB3⟩ := MD
  obtain ⟨dxm, dtm, hm1, hm2, hm3⟩ := id DM4
  refine ⟨_, rfl, xm, lm, _, [rA x, rB x y bb, rA x], _, rfl, DM4, ⟨FC.a1, FC.a2, FC.a1, trivial⟩, (by show 3 ≤ 80; decide), by simp, ok3, fun G1 s => ?_⟩
  replace FC := FC.same s
  replace DM4 := DM4.same' s
  replace hm1 := s _ _ hm1
  clear s hm2 hm3
  refine ⟨_, rfl, _, rfl, xm, lm, _, [rA x, rB x y bb, rA x], _, rfl, DM4, ⟨FC.a1, FC.a2, FC.a1, trivial⟩, (by show 3 ≤ 80; decide), by simp, ok3, fun G2 s => ⟨rfl, false, (by simp), iteF ?_⟩⟩
  replace FC := FC.same s
  replace DM4 := DM4.same' s
  replace hm1 := s _ _ hm1
  clear s
  refine ⟨_, rfl, [rA x, rB x y bb, rA x], rfl, by simp, (by show 3 ≤ 80; decide), ok3, cn3, fun p3 l3 us3 G3 D3 R3 s => ?_⟩
  replace FC := FC.same s
  replace DM4 := DM4.same' s
  replace hm1 := s _ _ hm1
  clear s
  obtain ⟨dx3, dt3, h31, h32, h33⟩ := id D3
  refine ⟨_, rfl, ⟨p3, xm, dx3, dxm, _, _, rfl, rfl, h31, hm1, l3, lm, _, _, [rA x, rB x y bb, rA x], _, _, D3, DM4, R3, ⟨FC.a1, FC.a2, FC.a1, trivial⟩, ok3⟩, fun G4 s => ⟨true, rfl, iteF ?_⟩⟩
  replace FC := FC.same s
  replace DM4 := DM4.same' s
  replace hm1 := s _ _ hm1
  clear s D3 R3 h31 h32 h33
  refine ⟨_, rfl, xm, dxm, _, rfl, hm1, dfF_no (by decide +kernel) (by decide +kernel), xm, lm, _, [rA x, rB x y bb, rA x], _, rfl, DM4, ⟨FC.a1, FC.a2, FC.a1, trivial⟩, (by show 3 ≤ 80; decide), rb3, cn3, fun p4 l4 G5 D4 s => ?_⟩
  replace FC := FC.same s
  replace DM4 := DM4.same' s
  replace hm1 := s _ _ hm1
  clear s
  obtain ⟨dx4, dt4, h41, h42, h43⟩ := id D4
  refine ⟨_, rfl, ⟨p4, xm, dx4, dxm, _, _, rfl, rfl, h41, hm1, l4, lm, _, _, [rA x, rB x y bb, rA x], _, _, D4, DM4, ⟨FC.a1, FC.a2, FC.a1, trivial⟩, ⟨FC.a1, FC.a2, FC.a1, trivial⟩, ok3⟩, fun G6 s => ⟨false, rfl, iteF ?_⟩⟩
  replace FC := FC.same s
  replace DM4 := DM4.same' s
  replace hm1 := s _ _ hm1
  clear s D4 h41 h42 h43
  have bad := badR_clash vA3
  refine ⟨_, rfl, _, rfl, xm, lm, _, [rA x, rB x y bb, rA x], _, x, 0, rfl, DM4, ⟨FC.a1, FC.a2, FC.a1, trivial⟩, (by show 3 ≤ 3; decide), rb3, kd3, le3, bad, fun q5 G7 hq5 s => ?_⟩
  replace hq5 : G7 q5 = some (.lst [V.bl true, .str x]) := hq5
  replace FC := FC.same s
  replace DM4 := DM4.same' s
  replace hm1 := s _ _ hm1
  clear s
  refine ⟨_, rfl, (by show 2 ≤ sizeLine; decide), fun l5 nl5 => ?_⟩
  have s := same_new nl5 (.lst [V.bl true, .str x])
  have hl5 : (upd G7 l5 (.lst [V.bl true, .str x])) l5 = some (.lst [V.bl true, .str x]) := upd_same
  replace FC := FC.same s
  replace DM4 := DM4.same' s
  replace hm1 := s _ _ hm1
  replace hq5 := s _ _ hq5
  generalize upd G7 l5 (.lst [V.bl true, .str x]) = G8 at s FC DM4 hm1 hq5 hl5 ⊢
  clear s
  refine ⟨.list [.bool true, .str x], .list [.bool true, .str x], told_str hq5, told_str hl5, (sh_str nx), (sh_str nx), false, (by rw [SeqAt.eqv_refl _ (lay_str nx)]; rfl), iteF ?_⟩
  clear hq5 hl5
  refine ⟨_, rfl, _, rfl, xm, lm, _, [rA x, rB x y bb, rA x], _, x, 1, rfl, DM4, ⟨FC.a1, FC.a2, FC.a1, trivial⟩, (by show 3 ≤ 3; decide), rb3, kd3, le3, bad, fun q5 G9 hq5 s => ?_⟩
  replace hq5 : G9 q5 = some (.lst [V.bl true, .int 3]) := hq5
  replace FC := FC.same s
  replace DM4 := DM4.same' s
  replace hm1 := s _ _ hm1
  clear s
  refine ⟨(by show 2 ≤ sizeLine; decide), fun l5 nl5 => ?_⟩
  have s := same_new nl5 (.lst [V.bl true, .int 3])
  have hl5 : (upd G9 l5 (.lst [V.bl true, .int 3])) l5 = some (.lst [V.bl true, .int 3]) := upd_same
  replace FC := FC.same s
  replace DM4 := DM4.same' s
  replace hm1 := s _ _ hm1
  replace hq5 := s _ _ hq5
  generalize upd G9 l5 (.lst [V.bl true, .int 3]) = G10 at s FC DM4 hm1 hq5 hl5 ⊢
  clear s
  refine ⟨.list [.bool true, .int 3], .list [.bool true, .int 3], told_int hq5, told_int hl5, sh_three, sh_three, false, (by rw [SeqAt.eqv_refl _ (by decide +kernel)]; rfl), iteF ?_⟩
  clear hq5 hl5
  exact go _ _ FC
end
end Rp

set_option maxHeartbeats 16000000
/-! The law k16. -/
namespace Rp
open PySem PySem.Spec PyProof.Rows L2 TL StX NdefX LamX PpSet
section
variable {P : Program} {w : World} {K : PySem.W.Frag} {mg : Str → Option Value} {base : Heap}
theorem ok_law {T : List NTab} {f fFo fB fT fNm fAm fRu fAV fAP fAT fRT fAI fRI fS fI fTe fRl fTr fWo fWi fAll fDT fDI fTw fE fRf C CC CN q0 : Addr} {fd dFo dB dT dNm dAm dRu dAV dAP dAT dRT dAI dRI dS dI dTe dRl dTr dWo dWi dAll dDT dDI dTw dE dRf : FuncData} (F : Fun K "law" "law" sLaw f fd)
    (GFo : FnOk P w K mg base CX0 1 fFo dFo ["_law_script", "_law_count"] (spFolded K)) (kFo : PySem.W.keepIn K (.ref fFo) = true) (bFo : Binds K dFo ["_law_script", "_law_count"] []) (mFo : mg "_law_folded" = some (.ref fFo))
    (GB : FnOk P w K mg base CX0 1 fB dB ["_law_script", "_law_k"] (spBox K)) (kB : PySem.W.keepIn K (.ref fB) = true) (bB : Binds K dB ["_law_script", "_law_k"] []) (mB : mg "_law_box" = some (.ref fB))
    (GT : FnOk P w K mg base CX0 1 fT dT ["_law_box_here", "_law_top"] spTake) (kT : PySem.W.keepIn K (.ref fT) = true) (bT : Binds K dT ["_law_box_here", "_law_top"] []) (mT : mg "_law_take" = some (.ref fT))
    (GNm : FnOk P w K mg base CX0 1 fNm dNm ["thing"] spIsName) (kNm : PySem.W.keepIn K (.ref fNm) = true) (bNm : Binds K dNm ["thing"] []) (qNm : KBinds K dNm ["thing"] ["thing"] gcat gcat) (mNm : mg "is_name" = some (.ref fNm))
    (GAm : FnOk P w K mg base CX0 4 fAm dAm ["thing"] spIsAtom) (kAm : PySem.W.keepIn K (.ref fAm) = true) (bAm : Binds K dAm ["thing"] []) (qAm : KBinds K dAm ["thing"] ["thing"] gcat gcat) (mAm : mg "is_atom" = some (.ref fAm))
    (GRu : FnOk P w K mg base CX0 6 fRu dRu ["thing"] spIsRule) (kRu : PySem.W.keepIn K (.ref fRu) = true) (bRu : Binds K dRu ["thing"] []) (qRu : KBinds K dRu ["thing"] ["thing"] gcat gcat) (mRu : mg "is_rule" = some (.ref fRu))
    (GAV : FnOk P w K mg base CX0 4 fAV dAV ["atom"] spAVars) (kAV : PySem.W.keepIn K (.ref fAV) = true) (bAV : Binds K dAV ["atom"] []) (qAV : KBinds K dAV ["atom"] ["atom"] gcat gcat) (mAV : mg "atom_variables" = some (.ref fAV))
    (GAP : FnOk P w K mg base CX0 5 fAP dAP ["atom", "binding"] (spAPut T)) (kAP : PySem.W.keepIn K (.ref fAP) = true) (bAP : Binds K dAP ["atom", "binding"] []) (qAP : KBinds K dAP ["atom", "binding"] ["binding", "atom"] gtwo gtwo) (mAP : mg "atom_put" = some (.ref fAP))
    (GAT : FnOk P w K mg base CX0 5 fAT dAT ["atom"] spAtomText) (kAT : PySem.W.keepIn K (.ref fAT) = true) (bAT : Binds K dAT ["atom"] []) (qAT : KBinds K dAT ["atom"] ["atom"] gcat gcat) (mAT : mg "atom_text" = some (.ref fAT))
    (GRT : FnOk P w K mg base CX0 7 fRT dRT ["rule"] spRuleText) (kRT : PySem.W.keepIn K (.ref fRT) = true) (bRT : Binds K dRT ["rule"] []) (qRT : KBinds K dRT ["rule"] ["rule"] gcat gcat) (mRT : mg "rule_text" = some (.ref fRT))
    (GAI : FnOk P w K mg base CX0 7 fAI dAI ["text"] spAtomOr) (kAI : PySem.W.keepIn K (.ref fAI) = true) (qAI : KBinds K dAI ["text"] ["text"] gcat gcat) (mAI : mg "atom_in" = some (.ref fAI))
    (GRI : FnOk P w K mg base CX0 9 fRI dRI ["text"] spRuleOr) (kRI : PySem.W.keepIn K (.ref fRI) = true) (qRI : KBinds K dRI ["text"] ["text"] gcat gcat) (mRI : mg "rule_in" = some (.ref fRI))
    (GS : FnOk P w K mg base CX0 61 fS dS ["_law_found", "_law_due"] (spSame 61)) (kS : PySem.W.keepIn K (.ref fS) = true) (bS : Binds K dS ["_law_found", "_law_due"] []) (mS : mg "_law_same" = some (.ref fS))
    (D : DfK K C) (M : Mk K C fI) (mD : mg "Definitions" = some (.ref C)) (GI : FnOk P w K mg base (L2.CX P w) 5 fI dI ["self", "rules"] (spDInit K C CC)) (bI : Binds K dI ["self", "rules"] []) (bI0 : Binds K dI ["self", "rules"] [.ref q0]) (e0 : ∀ H' : Hp, SqT K H' q0 []) (qI : KBn K dI ["self", "rules"] 1 ["rules"] gjoin gjoin)
    (GTe : FnOk P w K mg base (L2.CX P w) 4 fTe dTe ["self", "rule"] (spTell C CC)) (tTe : Meth K C "tell" fTe) (bTe : Binds K dTe ["self", "rule"] []) (qTe : KBinds K dTe ["self", "rule"] ["rule"] gself gself)
    (GRl : FnOk P w K mg base CX0 1 fRl dRl ["self", "word"] (spRulesM C)) (tRl : Meth K C "rules" fRl) (qRl : KBinds K dRl ["self", "word"] ["word"] gself gself)
    (GTr : FnOk P w K mg base CX0 1 fTr dTr ["self", "word"] (spTermsM C)) (tTr : Meth K C "terms" fTr) (qTr : KBinds K dTr ["self", "word"] ["word"] gself gself)
    (GWo : FnOk P w K mg base CX0 1 fWo dWo ["self"] (spWordsM C)) (tWo : Meth K C "words" fWo) (bWo : Binds K dWo ["self"] [])
    (GWi : FnOk P w K mg base (L2.CX P w) 7 fWi dWi ["self", "place"] (spWithout C CN)) (tWi : Meth K C "without" fWi) (qWi : KBinds K dWi ["self", "place"] ["place"] gself gself)
    (GAll : FnOk P w K mg base CX0 1 fAll dAll ["self"] (spAllR C)) (tAll : Meth K C "all_rules" fAll) (bAll : Binds K dAll ["self"] [])
    (GDT : FnOk P w K mg base CX0 8 fDT dDT ["defs"] (spDefsText C)) (kDT : PySem.W.keepIn K (.ref fDT) = true) (bDT : Binds K dDT ["defs"] []) (qDT : KBinds K dDT ["defs"] ["defs"] gcat gcat) (mDT : mg "definitions_text" = some (.ref fDT))
    (GDI : FnOk P w K mg base CX0 10 fDI dDI ["text"] (spDefsIn C)) (kDI : PySem.W.keepIn K (.ref fDI) = true) (qDI : KBinds K dDI ["text"] ["text"] gcat gcat) (mDI : mg "definitions_in" = some (.ref fDI))
    (GTw : FnOk P w K mg base CX0 7 fTw dTw ["self"] (spTwin C)) (tTw : Meth K C "twin" fTw) (bTw : Binds K dTw ["self"] [])
    (GE : FnOk P w K mg base CX0 1 fE dE ["self", "other"] (spEq (SameD C))) (bE : Binds K dE ["self", "other"] []) (EM : EqM K C fE)
    (GRf : FnOk P w K mg base CX0 8 fRf dRf ["_law_made", "_law_one", "_law_way"] (spRefused C)) (kRf : PySem.W.keepIn K (.ref fRf) = true) (bRf : Binds K dRf ["_law_made", "_law_one", "_law_way"] []) (mRf : mg "_law_refused" = some (.ref fRf))
    (mRange : mg "range" = none) (mLen : mg "len" = none) : FnOk P w K mg base CX0 62 f fd ["_law_script"] (spLaw T K) := by
  refine F.ok scLaw (fun vs H Q E h => ?_) (fun cdv A outer s H vs Q E hr h => ?_)
  · obtain ⟨a, ns, rfl, _⟩ := h
    rfl
  obtain ⟨a, ns, rfl, hS, hl, hT, q⟩ := h
  have r1 : Room 1 _ := hr.mono (by decide)
  have r2 : Room 2 _ := hr.mono (by decide)
  have r4 : Room 4 _ := hr.mono (by decide)
  have r5 : Room 5 _ := hr.mono (by decide)
  have r6 : Room 6 _ := hr.mono (by decide)
  have r7 : Room 7 _ := hr.mono (by decide)
  have r8 : Room 8 _ := hr.mono (by decide)
  have r9 : Room 9 _ := hr.mono (by decide)
  have r10 : Room 10 _ := hr.mono (by decide)
  obtain ⟨tE, pE, sE⟩ := lw_e (P := P) (w := w) (K := K) (mg := mg) (base := base) (f := f) (cdv := cdv) (A := A) (outer := outer) (s0 := s) (H0 := H) (E := E) (C := C) (CC := CC) (CN := CN) (q0 := q0) D M mD GI bI bI0 e0 qI GDT kDT bDT qDT mDT GDI kDI qDI mDI GTw tTw bTw GE bE EM GRf kRf bRf mRf mLen hr
  obtain ⟨tD, pD, sD⟩ := lw_d (P := P) (w := w) (K := K) (mg := mg) (base := base) (f := f) (cdv := cdv) (A := A) (outer := outer) (s0 := s) (H0 := H) (E := E) (C := C) (CC := CC) (CN := CN) (q0 := q0) D M mD GI bI bI0 e0 qI GRl tRl qRl GTr tTr qTr GWi tWi qWi GAll tAll bAll GS kS bS mS mLen hr pE
  obtain ⟨tC, pC, sC⟩ := lw_c (P := P) (w := w) (K := K) (mg := mg) (base := base) (f := f) (cdv := cdv) (A := A) (outer := outer) (s0 := s) (H0 := H) (E := E) (C := C) (CC := CC) (CN := CN) (q0 := q0) D M mD GI bI bI0 e0 qI GTe tTe bTe qTe GWo tWo bWo GE bE EM mLen hr pD
  obtain ⟨tB, pB, sB⟩ := lw_b (P := P) (w := w) (K := K) (mg := mg) (base := base) (f := f) (cdv := cdv) (A := A) (outer := outer) (s0 := s) (H0 := H) (E := E) (C := C) (CC := CC) (CN := CN) (q0 := q0) (T := T) GNm kNm bNm qNm mNm GAm kAm bAm qAm mAm GRu kRu bRu qRu mRu GAV kAV bAV qAV mAV GAP kAP bAP qAP mAP GAT kAT bAT qAT mAT GRT kRT bRT qRT mRT GAI kAI qAI mAI GRI kRI qRI mRI GS kS bS mS mLen hr pC
  refine ⟨_, pss_cons (ps_set (i := 1) scLaw.nd rfl (Or.inl rfl) (pe_call GFo r1 (by rfl) mFo kFo bFo .nil pass0 (pa_cons (pv 0) (pa_cons pe_int pa_nil))))
    (pss_cons (ps_for PassesOwn.never rfl (pi_range1 (by rfl) mRange (pa_cons (pe_callB call_len_seq (by rfl) mLen PySem.boot_len (pa_cons (pv 1) pa_nil)) pa_nil)) (pg_name (i := 2) scLaw.nd rfl (Or.inl rfl))
      (pss_cons (ps_set (i := 3) scLaw.nd rfl (Or.inl rfl) (pe_call GB r1 (by rfl) mB kB bB .nil pass0 (pa_cons (pv 1) (pa_cons (pv 2) pa_nil))))
      (pss_cons (ps_set (i := 4) scLaw.nd rfl (Or.inl rfl) pe_str)
      (pss_cons (ps_par (i := 5) (j := 6) rfl scLaw.nd rfl rfl (by decide) rfl rfl (pa_cons (pe_ix ix_str (pv 4) (pe_call GT r1 (by rfl) mT kT bT .nil pass0 (pa_cons (pv 3) (pa_cons pe_int pa_nil))) (fun _ _ => rfl))
        (pa_cons (pe_ix ix_str (pv 4) (pe_op op_add pe_int (pe_call GT r1 (by rfl) mT kT bT .nil pass0 (pa_cons (pv 3) (pa_cons pe_int pa_nil)))) (fun _ _ => rfl)) pa_nil)) (by rfl))
      (pss_cons (ps_par (i := 7) (j := 8) rfl scLaw.nd rfl rfl (by decide) rfl rfl (pa_cons (pe_tup (pa_cons (pe_tup (pa_cons (pv 5) (pa_cons (pe_tup (pa_cons pe_str (pa_cons pe_int pa_nil))) pa_nil))) (pa_cons (pe_tup (pa_cons (pe_tup (pa_cons (pv 5) (pa_cons pe_int pa_nil))) pa_nil)) pa_nil)))
        (pa_cons (pe_tup (pa_cons (pe_tup (pa_cons (pv 6) (pa_cons pe_int (pa_cons (pe_tup (pa_cons pe_str (pa_cons pe_int (pa_cons pe_int pa_nil)))) pa_nil)))) (pa_cons (pe_op op_rep01 (pe_tup (pa_cons (pe_tup (pa_cons (pv 5) (pa_cons pe_int pa_nil))) pa_nil)) (pe_call GT r1 (by rfl) mT kT bT .nil pass0 (pa_cons (pv 3) (pa_cons pe_int pa_nil)))) pa_nil))) pa_nil)) (by rfl))
      (pss_cons (ps_par (i := 9) (j := 10) rfl scLaw.nd rfl rfl (by decide) rfl rfl (pa_cons (pe_tup (pa_cons (pv 5) (pa_cons (pe_tup (pa_cons pe_str (pa_cons (pe_call GT r1 (by rfl) mT kT bT .nil pass0 (pa_cons (pv 3) (pa_cons pe_int pa_nil))) pa_nil))) pa_nil)))
        (pa_cons (pe_tupF (pa_cons (pe_tup (pa_cons (pe_call GT r1 (by rfl) mT kT bT .nil pass0 (pa_cons (pv 3) (pa_cons pe_int pa_nil))) (pa_cons (pe_tup (pa_cons pe_str pa_nil)) pa_nil))) pa_nil)) pa_nil)) (by rfl)) pB))))))
    (pss_one (ps_ret pe_bl))), ?_⟩
  have big : (10000 : Nat) ≤ sizeLine := by decide
  refine ⟨_, rfl, a, ns, rfl, hS, hl, fun pc cs H1 hpc0 hpc c1 c4 s1 => ?_⟩
  refine ⟨_, rfl, pc, _, rfl, .inl (.inl (.inl hpc)), _, rfl, by rw [List.length_map]; omega, by rw [List.length_map]; omega, for_range (lo := 0) (n := (((cs.map V.int).length : Nat) : Int).toNat) (fun i σ H2 => ∃ (x2 x3 x4 x5 x6 x7 x8 x9 x10 x11 x12 x13 x14 x15 : Option V), σ = [some (.ref a), some (.ref pc), x2, x3, x4, x5, x6, x7, x8, x9, x10, x11, x12, x13, x14, x15] ∧ H2 pc = some (.lst (cs.map V.int)) ∧ TabsN T H2)
    ⟨_, _, _, _, _, _, _, _, _, _, _, _, _, _, rfl, hpc, hT.ext s1⟩ ?_ ?_⟩
  · rintro i σ HB hi ⟨x2, x3, x4, x5, x6, x7, x8, x9, x10, x11, x12, x13, x14, x15, rfl, hpcB, tB⟩
    rw [List.length_map] at hi
    refine ⟨_, rfl, _, rfl, pc, cs, _, rfl, .inl (.inl hpcB), by omega, by omega, by omega, fun b H3 hbN B3 s3 => ?_⟩
    have pb : pc ≠ b := ne_of_none hpcB hbN
    have W : Bs T pc (cs.map V.int) b 0 H3 := ⟨B3, s3 _ _ hpcB, pb, tB.ext s3⟩
    refine ⟨_, rfl, _, rfl, b, _, _, rfl, W.box, by omega, by decide, by decide, fun l1 G1 l10 l11 B o2 => ?_⟩
    have u := W.tups o2
    replace W := W.take o2 B
    obtain ⟨k1, rfl⟩ := Int.eq_ofNat_of_zero_le l10
    refine ⟨_, _, _, rfl, rfl, by decide, letters_at (by omega) (by omega), ?_⟩
    refine ⟨_, rfl, _, rfl, b, _, _, rfl, W.box, by omega, by decide, by decide, fun l2 G2 l20 l21 B o2 => ?_⟩
    have u := W.tups o2
    replace W := W.take o2 B
    obtain ⟨k2, rfl⟩ := Int.eq_ofNat_of_zero_le l20
    refine ⟨5, (k2 : Int), rfl, rfl, ?_⟩
    refine ⟨_, _, _, rfl, rfl, by decide, letters_at (by omega) (by omega), ?_⟩
    refine ⟨_, _, rfl, ?_⟩
    obtain ⟨x, hx⟩ : ∃ x, x = letter (97 + (k1 : Int).toNat) := ⟨_, rfl⟩
    obtain ⟨y, hy⟩ : ∃ y, y = letter (97 + (5 + (k2 : Int)).toNat) := ⟨_, rfl⟩
    have nx : NameOk x := by rw [hx]; exact letter_ok (by omega) (by omega)
    have ny : NameOk y := by rw [hy]; exact letter_ok (by omega) (by omega)
    have ne : x ≠ y := by rw [hx, hy]; intro z; have := letter_inj z; omega
    unfold letter at hx hy
    rw [← hx, ← hy]
    refine ⟨_, rfl, ?_⟩
    refine ⟨(by show 2 ≤ sizeLine; decide), fun t1 nt1 => ?_⟩
    have s := same_new nt1 (.tup [V.str "s", .int 0])
    have ht1 : (upd G2 t1 (.tup [V.str "s", .int 0])) t1 = some (.tup [V.str "s", .int 0]) := upd_same
    replace W := W.same s
    generalize upd G2 t1 (.tup [V.str "s", .int 0]) = G3 at W ht1 ⊢
    clear s
    refine ⟨(by show 2 ≤ sizeLine; decide), fun t2 nt2 => ?_⟩
    have s := same_new nt2 (.tup [V.str x, .ref t1])
    have ht2 : (upd G3 t2 (.tup [V.str x, .ref t1])) t2 = some (.tup [V.str x, .ref t1]) := upd_same
    replace W := W.same s
    replace ht1 := s _ _ ht1
    generalize upd G3 t2 (.tup [V.str x, .ref t1]) = G4 at W ht1 ht2 ⊢
    clear s
    refine ⟨_, rfl, ?_⟩
    refine ⟨(by show 2 ≤ sizeLine; decide), fun t3 nt3 => ?_⟩
    have s := same_new nt3 (.tup [V.str x, .int 0])
    have ht3 : (upd G4 t3 (.tup [V.str x, .int 0])) t3 = some (.tup [V.str x, .int 0]) := upd_same
    replace W := W.same s
    replace ht1 := s _ _ ht1
    replace ht2 := s _ _ ht2
    generalize upd G4 t3 (.tup [V.str x, .int 0]) = G5 at W ht1 ht2 ht3 ⊢
    clear s
    refine ⟨(by show 1 ≤ sizeLine; decide), fun t4 nt4 => ?_⟩
    have s := same_new nt4 (.tup [V.ref t3])
    have ht4 : (upd G5 t4 (.tup [V.ref t3])) t4 = some (.tup [V.ref t3]) := upd_same
    replace W := W.same s
    replace ht1 := s _ _ ht1
    replace ht2 := s _ _ ht2
    replace ht3 := s _ _ ht3
    generalize upd G5 t4 (.tup [V.ref t3]) = G6 at W ht1 ht2 ht3 ht4 ⊢
    clear s
    refine ⟨(by show 2 ≤ sizeLine; decide), fun t5 nt5 => ?_⟩
    have s := same_new nt5 (.tup [V.ref t2, .ref t4])
    have ht5 : (upd G6 t5 (.tup [V.ref t2, .ref t4])) t5 = some (.tup [V.ref t2, .ref t4]) := upd_same
    replace W := W.same s
    replace ht1 := s _ _ ht1
    replace ht2 := s _ _ ht2
    replace ht3 := s _ _ ht3
    replace ht4 := s _ _ ht4
    generalize upd G6 t5 (.tup [V.ref t2, .ref t4]) = G7 at W ht1 ht2 ht3 ht4 ht5 ⊢
    clear s
    have A1 : RuAt G7 (.ref t5) (rA x) := ⟨t5, t4, .ref t2, [.ref t3], rfl, ht5, ⟨t2, [.ref t1], rfl, ht2, .s ht1 (.v _), trivial⟩, ht4, ⟨t3, [.int 0], rfl, ht3, .v _, trivial⟩, trivial⟩
    clear ht1 ht2 ht3 ht4 ht5
    refine ⟨_, rfl, ?_⟩
    refine ⟨(by show 3 ≤ sizeLine; decide), fun t6 nt6 => ?_⟩
    have s := same_new nt6 (.tup [V.str "f", .int 1, .int 2])
    have ht6 : (upd G7 t6 (.tup [V.str "f", .int 1, .int 2])) t6 = some (.tup [V.str "f", .int 1, .int 2]) := upd_same
    replace W := W.same s
    replace A1 := RuAt.same A1 s
    generalize upd G7 t6 (.tup [V.str "f", .int 1, .int 2]) = G8 at W A1 ht6 ⊢
    clear s
    refine ⟨(by show 3 ≤ sizeLine; decide), fun t7 nt7 => ?_⟩
    have s := same_new nt7 (.tup [V.str y, .int 0, .ref t6])
    have ht7 : (upd G8 t7 (.tup [V.str y, .int 0, .ref t6])) t7 = some (.tup [V.str y, .int 0, .ref t6]) := upd_same
    replace W := W.same s
    replace A1 := RuAt.same A1 s
    replace ht6 := s _ _ ht6
    generalize upd G8 t7 (.tup [V.str y, .int 0, .ref t6]) = G9 at W A1 ht6 ht7 ⊢
    clear s
    refine ⟨_, rfl, ?_⟩
    refine ⟨(by show 2 ≤ sizeLine; decide), fun t8 nt8 => ?_⟩
    have s := same_new nt8 (.tup [V.str x, .int 2])
    have ht8 : (upd G9 t8 (.tup [V.str x, .int 2])) t8 = some (.tup [V.str x, .int 2]) := upd_same
    replace W := W.same s
    replace A1 := RuAt.same A1 s
    replace ht6 := s _ _ ht6
    replace ht7 := s _ _ ht7
    generalize upd G9 t8 (.tup [V.str x, .int 2]) = G10 at W A1 ht6 ht7 ht8 ⊢
    clear s
    refine ⟨(by show 1 ≤ sizeLine; decide), fun t9 nt9 => ?_⟩
    have s := same_new nt9 (.tup [V.ref t8])
    have ht9 : (upd G10 t9 (.tup [V.ref t8])) t9 = some (.tup [V.ref t8]) := upd_same
    replace W := W.same s
    replace A1 := RuAt.same A1 s
    replace ht6 := s _ _ ht6
    replace ht7 := s _ _ ht7
    replace ht8 := s _ _ ht8
    generalize upd G10 t9 (.tup [V.ref t8]) = G11 at W A1 ht6 ht7 ht8 ht9 ⊢
    clear s
    refine ⟨_, rfl, b, _, _, rfl, W.box, by omega, by decide, by decide, fun kk G12 kk0 kk1 B o2 => ?_⟩
    have u := W.tups o2
    replace W := W.take o2 B
    replace A1 := RuAt.mono u A1
    replace ht6 := u _ _ ht6
    replace ht7 := u _ _ ht7
    replace ht8 := u _ _ ht8
    replace ht9 := u _ _ ht9
    refine rep_ok ht9 (by simp) (by simp) kk0 kk1 fun q2 bb G13 hq2 s => ?_
    replace W := W.same s
    replace A1 := RuAt.same A1 s
    replace ht6 := s _ _ ht6
    replace ht7 := s _ _ ht7
    replace ht8 := s _ _ ht8
    replace ht9 := s _ _ ht9
    refine ⟨(by show 2 ≤ sizeLine; decide), fun t10 nt10 => ?_⟩
    have s := same_new nt10 (.tup [V.ref t7, .ref q2])
    have ht10 : (upd G13 t10 (.tup [V.ref t7, .ref q2])) t10 = some (.tup [V.ref t7, .ref q2]) := upd_same
    replace W := W.same s
    replace A1 := RuAt.same A1 s
    replace ht6 := s _ _ ht6
    replace ht7 := s _ _ ht7
    replace ht8 := s _ _ ht8
    replace ht9 := s _ _ ht9
    replace hq2 := s _ _ hq2
    generalize upd G13 t10 (.tup [V.ref t7, .ref q2]) = G14 at W A1 ht6 ht7 ht8 ht9 hq2 ht10 ⊢
    clear s
    have A2 : RuAt G14 (.ref t10) (rB x y bb) := by
      refine ⟨t10, q2, .ref t7, (if bb = true then [.ref t8] else []), rfl, ht10, ⟨t7, [.int 0, .ref t6], rfl, ht7, .v _, .f ht6 (.v _) (.v _), trivial⟩, hq2, ?_⟩
      cases bb with
      | false => exact trivial
      | true => exact ⟨⟨t8, [.int 2], rfl, ht8, .v _, trivial⟩, trivial⟩
    clear ht6 ht7 ht8 ht9 ht10 hq2
    refine ⟨_, _, rfl, ?_⟩
    refine ⟨_, rfl, ?_⟩
    refine ⟨_, rfl, b, _, _, rfl, W.box, by omega, by decide, by decide, fun n G15 n0 n1 B o2 => ?_⟩
    have u := W.tups o2
    replace W := W.take o2 B
    replace A1 := RuAt.mono u A1
    replace A2 := RuAt.mono u A2
    refine ⟨(by show 2 ≤ sizeLine; decide), fun t11 nt11 => ?_⟩
    have s := same_new nt11 (.tup [V.str "s", .int n])
    have ht11 : (upd G15 t11 (.tup [V.str "s", .int n])) t11 = some (.tup [V.str "s", .int n]) := upd_same
    replace W := W.same s
    replace A1 := RuAt.same A1 s
    replace A2 := RuAt.same A2 s
    generalize upd G15 t11 (.tup [V.str "s", .int n]) = G16 at W A1 A2 ht11 ⊢
    clear s
    refine ⟨(by show 2 ≤ sizeLine; decide), fun t12 nt12 => ?_⟩
    have s := same_new nt12 (.tup [V.str x, .ref t11])
    have ht12 : (upd G16 t12 (.tup [V.str x, .ref t11])) t12 = some (.tup [V.str x, .ref t11]) := upd_same
    replace W := W.same s
    replace A1 := RuAt.same A1 s
    replace A2 := RuAt.same A2 s
    replace ht11 := s _ _ ht11
    generalize upd G16 t12 (.tup [V.str x, .ref t11]) = G17 at W A1 A2 ht11 ht12 ⊢
    clear s
    have AO : AtAt G17 (.ref t12) (aOwn x n) := ⟨t12, [.ref t11], rfl, ht12, .s ht11 (.v _), trivial⟩
    clear ht11 ht12
    refine ⟨_, rfl, b, _, _, rfl, W.box, by omega, by decide, by decide, fun m G18 m0 m1 B o2 => ?_⟩
    have u := W.tups o2
    replace W := W.take o2 B
    replace A1 := RuAt.mono u A1
    replace A2 := RuAt.mono u A2
    replace AO := atAt_mono u AO
    refine ⟨(by show 1 ≤ sizeLine; decide), fun t13 nt13 => ?_⟩
    have s := same_new nt13 (.tup [V.str "0"])
    have ht13 : (upd G18 t13 (.tup [V.str "0"])) t13 = some (.tup [V.str "0"]) := upd_same
    replace W := W.same s
    replace A1 := RuAt.same A1 s
    replace A2 := RuAt.same A2 s
    replace AO := atAt_same AO s
    generalize upd G18 t13 (.tup [V.str "0"]) = G19 at W A1 A2 AO ht13 ⊢
    clear s
    refine ⟨(by show 2 ≤ sizeLine; decide), fun t14 nt14 => ?_⟩
    have s := same_new nt14 (.tup [V.int m, .ref t13])
    have ht14 : (upd G19 t14 (.tup [V.int m, .ref t13])) t14 = some (.tup [V.int m, .ref t13]) := upd_same
    replace W := W.same s
    replace A1 := RuAt.same A1 s
    replace A2 := RuAt.same A2 s
    replace AO := atAt_same AO s
    replace ht13 := s _ _ ht13
    generalize upd G19 t14 (.tup [V.int m, .ref t13]) = G20 at W A1 A2 AO ht13 ht14 ⊢
    clear s
    have AP : PrAt G20 t14 (m, .z) := ⟨.ref t13, ht14, .z ht13⟩
    refine ⟨(by show 1 ≤ sizeLine; decide), fun pa op opd npa => ?_⟩
    have s := same_new npa (.frz op (.tup [V.ref t14]))
    have hpa : (upd G20 pa (.frz op (.tup [V.ref t14]))) pa = some (.frz op (.tup [V.ref t14])) := upd_same
    replace AP := AP.mono (fun a xs z => s _ _ z)
    replace W := W.same s
    replace A1 := RuAt.same A1 s
    replace A2 := RuAt.same A2 s
    replace AO := atAt_same AO s
    replace ht13 := s _ _ ht13
    replace ht14 := s _ _ ht14
    generalize upd G20 pa (.frz op (.tup [V.ref t14])) = G21 at W A1 A2 AO AP hpa ⊢
    clear s
    have FC : Fc T pc (cs.map V.int) x y bb n m (.ref t5) (.ref t10) (.ref t12) pa G21 := ⟨W.hpc, W.tab, A1, A2, AO, ⟨[t14], ⟨op, opd, hpa⟩, .cons AP .nil, by simp, by simp⟩⟩
    clear W A1 A2 AO AP hpa ht13 ht14
    refine ⟨_, _, rfl, ?_⟩
    generalize V.ref t5 = v1 at FC ⊢
    generalize V.ref t10 = v2 at FC ⊢
    generalize V.ref t12 = vo at FC ⊢
    refine sB _ x y bb n m v1 v2 vo pa a pc _ _ _ _ _ _ _ _ _ _ nx ny ne n0 n1 FC fun z11 z12 H4 F4 => ?_
    refine sC _ x y bb n m v1 v2 vo pa a pc _ _ _ _ _ _ _ _ _ _ nx ny ne n0 n1 F4 fun xb xm lm kvs H5 F5 M5 => ?_
    refine sD _ x y bb n m v1 v2 vo pa a pc _ _ _ _ _ _ _ none _ _ xm lm kvs nx ny ne n0 n1 F5 M5 fun z11 H6 F6 M6 => ?_
    refine sE _ x y bb n m v1 v2 vo pa a pc _ _ _ _ _ _ _ none _ _ xm lm kvs nx ny ne n0 n1 F6 M6 fun z15 H7 F7 => ?_
    exact ⟨_, _, _, _, _, _, _, _, _, _, _, _, _, _, rfl, F7.hpc, F7.tab⟩
  · rintro σ H2 _
    exact q H2
end
end Rp

/-! The end of a law whose promise is a GnOk, and in whose run a def within a def is made: its table of code objects is tracked. -/
namespace Rp
open PySem PySem.Spec PyProof.Rows L2 LamX NdefX
/-- the law's own call; Pt: the table of the def that makes the inner one -/
theorem law_callGT {Pr : Program} {w : World} {K : PySem.W.Frag} {mg mb : Str → Option Value} {k : Nat} {fa a c Pt : Addr} {fd : FuncData} {x : Str} {sp : Sp} {s₁ : Shared} {vs : List Value} {ns : List Int}
    (KX : K.In s₁.heap) (hns : s₁.heap.Ns mainGlobals mg) (hb : s₁.heap.Ns builtinsNs mb) (hbb : ∀ x : Str, x ≠ "__name__" → mb x = bootBuiltins x) (hlim : s₁.heap.NoLimit) (hg : s₁.gens = #[])
    (hT : s₁.heap.get? Pt = some { cls := .none, data := .fields #[] }) (nT : K.lookup Pt = none) (C : PySem.W.CodeHd s₁.heap c Pt)
    (hbm : ∃ (bm : Addr) (ob : Obj), mg "__builtins__" = some (.ref bm) ∧ bm ≠ builtinsNs ∧ s₁.heap.get? bm = some ob ∧ ob.cls = .type "module" ∧ ob.dict = some builtinsNs ∧ ob.data = .plain)
    (ha : s₁.heap.get? a = some { cls := .type "list", data := .seq vs.toArray }) (hi : IntsAre vs ns) (hl : ns.length ≤ sizeLine) (hr : Room k callerA)
    (F : ∀ base : Heap, K.In base → base.Ns mainGlobals mg → TabB base mg c Pt → GnOk Pr w K mg base k fa fd [x] sp) (bind : ∀ (s : Shared) (u : Value), BindsTo s fd ⟨[u], []⟩ [(x, u)])
    (ask : ∀ H : Hp, H Pt = some (.tbl #[]) → SqL K H a (ns.map V.int) → sp [.ref a] H (fun v _ => v = .bl true) E0) :
    codeAny (model Pr w) callerA (.call (.ref fa) ⟨[.ref a], []⟩) (fun r s' => r = .ok (.ret (.bool true)) ∧ OldK s₁.heap s'.heap ∧ s'.os = s₁.os ∧ AllBare s'.gens) s₁ := by
  have rv := vals_ints hi
  have lenV := hi.length
  have aP : a ≠ Pt := by
    rintro rfl
    rw [ha] at hT
    have z : Data.seq vs.toArray _ = Data.fields #[] := congrArg Obj.data (Option.some.inj hT)
    cases z
  have from_ : ∀ H : Hp, H Pt = some (.tbl #[]) → (∀ b, b ≠ Pt → H b = none ∨ ∃ o ys, H b = some (.frz o (.lst ys))) → SqL K H a (ns.map V.int) → HOk Pr w H s₁.heap → (∀ b, H b ≠ none → b = Pt ∨ (b = a ∧ K.lookup a = none)) →
      codeAny (model Pr w) callerA (.call (.ref fa) ⟨[.ref a], []⟩) (fun r s' => r = .ok (.ret (.bool true)) ∧ OldK s₁.heap s'.heap ∧ s'.os = s₁.os ∧ AllBare s'.gens) s₁ := by
    intro H hP only hS hok hA
    have free : ∀ {b : Addr} {o : Obj}, s₁.heap.get? b = some o → o.data ≠ .fields #[] → (b = a → False) → H b = none := fun {b o} e n1 n2 => by
      cases q : H b with
      | none => rfl
      | some u =>
        rcases hA b (by rw [q]; simp) with z | z
        · subst z
          rw [hT] at e
          cases e
          exact (n1 rfl).elim
        · exact (n2 z.1).elim
    have low : ∀ {b : Addr} {o : Obj}, s₁.heap.get? b = some o → H b = none → (hidT s₁.heap H).get? b = some o := fun e n => hidT_get e n
    have apart : ∀ {b : Addr} {o : Obj}, s₁.heap.get? b = some o → (∀ us n, o.data ≠ .seq us n) → b = a → False := fun {b o} e n z => by
      subst z
      rw [ha] at e
      cases e
      exact n _ _ rfl
    have names : ∀ {b : Addr} {m : Str → Option Value}, s₁.heap.Ns b m → (hidT s₁.heap H).Ns b m := fun {b m} ⟨o, es, ep, e, d, r⟩ =>
      ⟨o, es, ep, low e (free e (by rw [d]; intro z; cases z) (apart e (by rw [d]; intro us n z; cases z))), d, r⟩
    have hK : K.In (hidT s₁.heap H) := fun b o e => low (KX b o e) (by
      cases q : H b with
      | none => rfl
      | some u =>
        rcases hA b (by rw [q]; simp) with z | ⟨z, zk⟩
        · subst z; rw [nT] at e; cases e
        · subst z; rw [zk] at e; cases e)
    have M : Mod K mg (hidT s₁.heap H) := ⟨hK, names hns, ⟨mb, names hb, hbb⟩, let ⟨mc, h1, h2⟩ := hlim; ⟨mc, names h1, h2⟩⟩
    have gP : mainGlobals ≠ Pt := by
      rintro rfl
      obtain ⟨o, es, ep, e, d, _⟩ := hns
      rw [hT] at e
      cases e
      cases d
    have TB : TabB (hidT s₁.heap H) mg c Pt := by
      refine ⟨?_, ?_, gP⟩
      · obtain ⟨o, us, file, tf, flags, tg, inF, text, tt, e1, r1, r2, r3, r4, r5, r6, r7, r8, hne⟩ := C
        refine ⟨o, us, file, tf, flags, tg, inF, text, tt, low e1 (free e1 (fun z => ?_) (apart e1 fun us n z => ?_)), r1, r2, r3, r4, r5, r6, r7, r8, hne⟩
        · rw [r2] at z
          cases z
          simp at r3
        · rw [r2] at z; cases z
      · obtain ⟨bm, ob, b1, b2, b3, b4, b5, b6⟩ := hbm
        refine ⟨bm, ob, b1, b2, fun z => ?_, fun z => ?_, low b3 (free b3 (by rw [b6]; intro z; cases z) (apart b3 (by rw [b6]; intro us n z; cases z))), b4, b5, b6⟩
        · obtain ⟨o, es, ep, e, d, _⟩ := hns
          rw [z, e] at b3
          cases b3
          rw [d] at b6; cases b6
        · rw [z, hT] at b3
          cases b3
          cases b6
    have e0 : Env0 Pr w K mg (hidT s₁.heap H) callerA [] s₁ H := ⟨rfl, M, fun b o e => of_hidT e, Nat.le_of_eq (hidT_size _ _), trivial, fun b z => absurd (show b ∈ ([] : List Addr) from z) (by simp), hok, .of_eq hg⟩
    refine codeAny_mono ((F _ hK (names hns) TB).run callerA [] s₁ H ⟨[.ref a], []⟩ [.ref a] [.ref a] _ _ rfl hr e0 (bind s₁ (.ref a)) (.cons rfl .nil) (ask H hP hS)) fun r s' h => ?_
    rcases r with e | fl
    · exact h.elim
    · rcases fl with _ | _ | _ | u
      · exact h.elim
      · exact h.elim
      · exact h.elim
      · obtain ⟨v, H', os, bare, un, hok', r', q⟩ := h
        obtain rfl : v = .bl true := q
        obtain rfl : u = Value.bool true := r'
        have same : ∀ b o, b ≠ Pt → s₁.heap.get? b = some o → s'.heap.get? b = some o := fun b o nb e => by
          cases q : H b with
          | none => exact un.keep b o e q (by intro z; exact absurd (show b ∈ ([] : List Addr) from z) (by simp)) (by simp)
          | some u =>
            rcases only b nb with z | ⟨ob, ys, z⟩
            · rw [q] at z; cases z
            · obtain ⟨e1, _⟩ := hok b _ z
              obtain ⟨e2, _⟩ := hok' b _ (un.frzs b ob _ z)
              rw [e] at e1; cases e1
              exact e2
        obtain ⟨more, grown⟩ : ∃ more : Array Value, s'.heap.get? Pt = some { cls := .none, data := .fields more } := by
          obtain ⟨more, z⟩ := un.tbls Pt #[] hP
          exact ⟨_, hok' Pt _ z⟩
        refine ⟨rfl, ⟨fun b o e => ?_, fun b o e => ?_⟩, os, bare⟩
        · by_cases nb : b = Pt
          · subst nb
            rw [hT] at e
            cases e
            exact .inr (.inl ⟨(C.tab hT).isCodeTable, rfl, #[], more, rfl, by rw [Array.empty_append]; exact grown⟩)
          · exact .inl (same b o nb e)
        · by_cases nb : b = Pt
          · subst nb
            exact ⟨_, grown⟩
          · exact ⟨o, same b o nb e⟩
  cases hk : K.lookup a with
  | some o =>
    have e := KX a o hk
    rw [ha] at e
    cases e
    refine from_ (fun b => if b = Pt then some (.tbl #[]) else none) (if_pos rfl) (fun b nb => .inl (if_neg nb)) (.inr ⟨_, vs.toArray, _, hk, rfl, rfl, rfl, by rw [List.size_toArray, lenV]; exact hl, by simpa using rv⟩) (fun b u z => ?_) fun b z => ?_
    · by_cases nb : b = Pt
      · subst nb
        have z' := (if_pos rfl).symm.trans z
        cases z'
        exact hT
      · have z' := (if_neg nb).symm.trans z
        cases z'
    · by_cases nb : b = Pt
      · exact .inl nb
      · exact absurd (if_neg nb) z
  | none =>
    refine from_ (fun b => if b = Pt then some (.tbl #[]) else if b = a then some (.frz { cls := .type "list", data := .seq vs.toArray } (.lst (ns.map V.int))) else none) (if_pos rfl) (fun b nb => ?_) (.inl (.inr ⟨_, (if_neg aP).trans (if_pos rfl)⟩)) (fun b u z => ?_) fun b z => ?_
    · by_cases n2 : b = a
      · exact .inr ⟨_, _, (if_neg nb).trans (if_pos n2)⟩
      · exact .inl ((if_neg nb).trans (if_neg n2))
    · by_cases nb : b = Pt
      · subst nb
        have z' := (if_pos rfl).symm.trans z
        cases z'
        exact hT
      · have z1 := (if_neg nb).symm.trans z
        by_cases n2 : b = a
        · subst n2
          have z' := (if_pos rfl).symm.trans z1
          cases z'
          exact ⟨ha, by rw [List.length_map]; exact hl, vs, _, rv, ha⟩
        · have z' := (if_neg n2).symm.trans z1
          cases z'
    · by_cases nb : b = Pt
      · exact .inl nb
      · by_cases n2 : b = a
        · exact .inr ⟨n2, hk⟩
        · exact absurd ((if_neg nb).trans (if_neg n2)) z
/-- a def of this name makes inner ones; its table is nobody else's -/
def tabB (K : PySem.W.Frag) (x : Str) : Bool := match PySem.W.tabIn K x with
  | some q => (K.lookup q.2).isNone
  | none => false
theorem tab_told {K : PySem.W.Frag} {x : Str} (h : tabB K x = true) : ∃ c Pt, PySem.W.tabIn K x = some (c, Pt) ∧ K.lookup Pt = none := by
  unfold tabB at h
  split at h
  · rename_i q hq
    exact ⟨q.1, q.2, hq, by simpa using h⟩
  · cases h
theorem walk_ofGT {l : PySem.W.OpenLaw} {n k : Nat} {q : Program} {loose : List Str} {XP : (Str → Option Value) → Heap → Prop} {YP : World → Heap → Prop} {d : DefRec} {K : Params → PySem.W.Frag} {sp : List NTab → PySem.W.Frag → Sp} {x y : Str} {nm : Nat → Nat → Str}
    (hn : l.most = some n) (hn2 : n ≤ sizeLine) (hdf : d.params.defaults = []) (hr : Room k callerA) (hY : ∀ (w : World) (h : Heap), YP w h → (K w.params).In h)
    (hrec : ((recsOf q).find? fun e => e.name == y).isSome = true) (htab : ∀ w : World, tabB (K w.params) y = true)
    (F : ∀ (w : World) (mg : Str → Option Value) (fa c Pt : Addr) (h : Heap), (K w.params).In h → h.Ns mainGlobals mg → mg d.name = some (.ref fa) → PySem.W.tabIn (K w.params) y = some (c, Pt) →
      ∃ fd : FuncData, (∀ (s : Shared) (u : Value), BindsTo s fd ⟨[u], []⟩ [(x, u)]) ∧ ∀ base : Heap, (K w.params).In base → base.Ns mainGlobals mg → TabB base mg c Pt → GnOk l.prog w (K w.params) mg base k fa fd [x] (sp [(Pt, nm)] (K w.params)))
    (ask : ∀ (K : PySem.W.Frag) (H : Hp) (a Pt : Addr) (ns : List Int), ns.length ≤ n → H Pt = some (.tbl #[]) → SqL K H a (ns.map V.int) → sp [(Pt, nm)] K [.ref a] H (fun v _ => v = .bl true) E0) :
    PySem.W.WalkO q loose XP YP l.row.toRowW d [] (fun f vs => PySem.call f vs) := by
  refine Att.attach_call hn hdf fun w s₀ s₁ mg mb fa o pm cd doc a vs ns G Y ho hd hcd hmg hobj hints hlen hg => ?_
  have KX := hY w _ Y
  obtain ⟨c, Pt, ht, nT⟩ := tab_told (htab w)
  obtain ⟨dd, hdd⟩ := Option.isSome_iff_exists.mp hrec
  obtain ⟨C, hT⟩ := PySem.W.tab_of G.T KX hdd ht
  obtain ⟨fd, hb, hF⟩ := F w mg fa c Pt _ KX G.T.g hmg ht
  exact law_callGT KX G.T.g G.T.b G.T.builtins G.T.nolimit hg hT nT C G.T.bmain hobj hints (Nat.le_trans hlen hn2) hr hF hb fun H hP hS => ask _ H a Pt ns hlen hP hS
end Rp

namespace Rp
open PySem L2
theorem gn_of {P : Program} {w : World} {K : PySem.W.Frag} {mg : Str → Option Value} {base : Heap} {k : Nat} {f : Addr} {fd : FuncData} {ps : List Str} {sp : Sp} (F : FnOk P w K mg base CX0 k f fd ps sp) : GnOk P w K mg base k f fd ps sp :=
  ⟨F.len, fun A outer s H args us vs Q E _ hr e0 hb r h => F.run A outer s H args us vs Q E hr e0 hb r h⟩
def oexIn (K : PySem.W.Frag) (C : Addr) : Bool := match K.lookup C with
  | some ⟨.type "type", _, .cls cd, sl⟩ => (match cd.mro, sl.toList with
    | .ref C' :: bm, [_, _, _, _, some (.builtin n), _] => C' == C && n == "ValueError.__new__" && !cd.hasDel && cd.hasDict && PySem.HandSPX.refsVE bm
    | _, _ => false)
  | _ => false
theorem oexIn_ok {K : PySem.W.Frag} {C : Addr} (q : oexIn K C = true) : ∃ nm q N bs bm sn sub ab col dd k0 k1 k2 k3 k5, K.lookup C = some (excClassObj nm q C N bs bm true sn sub ab col dd k0 k1 k2 k3 k5 "ValueError.__new__") ∧ PySem.HandSPX.refsVE bm = true := by
  unfold oexIn at q
  split at q
  · rename_i dd cd sl ho
    split at q
    · rename_i C' bm k0 k1 k2 k3 n k5 hm hs
      simp only [Bool.and_eq_true, beq_iff_eq, Bool.not_eq_true'] at q
      obtain ⟨⟨⟨⟨rfl, hn⟩, hdel⟩, hdct⟩, ht⟩ := q
      subst hn
      obtain ⟨nm, bs, mro, ns, qn, hd, sn, sub, ab, col, del⟩ := cd
      dsimp only at hm hdel hdct
      subst hm hdel hdct
      have hsl : sl = #[k0, k1, k2, k3, some (.builtin "ValueError.__new__"), k5] := by
        obtain ⟨l⟩ := sl
        simp only at hs
        rw [hs]
      subst hsl
      exact ⟨nm, qn, ns, bs, bm, sn, sub, ab, col, dd, k0, k1, k2, k3, k5, ho, ht⟩
    · cases q
  · cases q
structure Kls (K : PySem.W.Frag) (fI C : Addr) : Prop where
  oex : OexC K C
  ini : PySem.W.findIn K (.ref C) "__init__" = some (some (.ref fI))
  wh : PySem.W.findIn K (.ref C) "what" = some none
  exc : ExcC K C
  xf : XfC K C
def klsB (K : PySem.W.Frag) (fI C : Addr) : Bool := oexIn K C && (decide (PySem.W.findIn K (.ref C) "__setattr__" = some (some (.builtin "object.__setattr__"))) && (decide (PySem.W.subIn K (.ref C) (.type "BaseException") = some true) && (decide (PySem.W.typeIn K (.ref C) = some (.type "type")) && (PySem.W.keepIn K (.ref C) &&
  (decide (PySem.W.findIn K (.ref C) "__init__" = some (some (.ref fI))) && (decide (PySem.W.findIn K (.ref C) "what" = some none) && (decide (PySem.W.findIn K (.ref C) "__getattribute__" = some (some (.builtin "BaseException.__getattribute__"))) && (decide (PySem.W.findIn K (.ref C) "__getattr__" = some none) && (PySem.W.hasDictIn K C &&
  (decide (PySem.W.findIn K (.ref C) "__class__" = some (some (.builtin "object.__class__"))) && (decide (PySem.W.specialIn K (.builtin "object.__class__") "__get__" = some (some (.builtin "getset_descriptor.__get__"))) && (decide (PySem.W.takesIn K (.builtin "object.__class__") = some true) && decide (PySem.W.mroIn K C (.type "object") = some true)))))))))))))
theorem klsB_ok {K : PySem.W.Frag} {fI C : Addr} (h : klsB K fI C = true) : Kls K fI C := by
  unfold klsB at h
  obtain ⟨h0, h⟩ := Bool.and_eq_true_iff.mp h
  obtain ⟨h1, h⟩ := Bool.and_eq_true_iff.mp h
  obtain ⟨h2, h⟩ := Bool.and_eq_true_iff.mp h
  obtain ⟨h3, h⟩ := Bool.and_eq_true_iff.mp h
  obtain ⟨h4, h⟩ := Bool.and_eq_true_iff.mp h
  obtain ⟨h5, h⟩ := Bool.and_eq_true_iff.mp h
  obtain ⟨h6, h⟩ := Bool.and_eq_true_iff.mp h
  obtain ⟨h7, h⟩ := Bool.and_eq_true_iff.mp h
  obtain ⟨h8, h⟩ := Bool.and_eq_true_iff.mp h
  obtain ⟨h9, h⟩ := Bool.and_eq_true_iff.mp h
  obtain ⟨h10, h⟩ := Bool.and_eq_true_iff.mp h
  obtain ⟨h11, h⟩ := Bool.and_eq_true_iff.mp h
  obtain ⟨h12, h13⟩ := Bool.and_eq_true_iff.mp h
  exact ⟨⟨oexIn_ok h0, of_decide_eq_true h1, of_decide_eq_true h2, of_decide_eq_true h3, h4⟩, of_decide_eq_true h5, of_decide_eq_true h6, ⟨of_decide_eq_true h7, of_decide_eq_true h8, of_decide_eq_true h2, h9, of_decide_eq_true h10, of_decide_eq_true h11, of_decide_eq_true h12, of_decide_eq_true h13⟩,
    ⟨of_decide_eq_true h7, of_decide_eq_true h8, of_decide_eq_true h2, h9⟩⟩
theorem all_mk {l : PySem.W.OpenLaw} {w : World} {K : PySem.W.Frag} {h : Heap} {mg : Str → Option Value} {fa f1 f2 f3 f4 f5 f6 f7 f8 f9 f10 f11 f12 f13 f14 f15 f16 f17 f18 f19 f20 f21 f22 f23 f24 f25 f26 f27 f28 f29 f30 f31 f32 f33 f34 f35 f36 f37 f38 : Addr} (X : K.In h) (G : h.Ns mainGlobals mg) (hfa : mg "law" = some (.ref fa))
    {od1 an1 od2 an2 od3 an3 od4 an4 od5 an5 od6 an6 od7 an7 od8 an8 od9 an9 od10 an10 od11 an11 od12 an12 od13 an13 od14 an14 od15 an15 od16 an16 od17 an17 od18 an18 od19 an19 od20 an20 od21 an21 od22 an22 od23 an23 od24 an24 od25 an25 od26 an26 od27 an27 od28 an28 od29 an29 od30 an30 od31 an31 od32 an32 od33 an33 od34 an34 od35 an35 od36 an36 od37 an37 od38 an38 : Option Addr} {sl1 sl2 sl3 sl4 sl5 sl6 sl7 sl8 sl9 sl10 sl11 sl12 sl13 sl14 sl15 sl16 sl17 sl18 sl19 sl20 sl21 sl22 sl23 sl24 sl25 sl26 sl27 sl28 sl29 sl30 sl31 sl32 sl33 sl34 sl35 sl36 sl37 sl38 : Array (Option Value)} {oc1 kV1 dc1 pm1 cd1 ct1 oc2 kV2 dc2 pm2 cd2 ct2 oc3 kV3 dc3 pm3 cd3 ct3 oc4 kV4 dc4 pm4 cd4 ct4 oc5 kV5 dc5 pm5 cd5 ct5 oc6 kV6 dc6 pm6 cd6 ct6 oc7 kV7 dc7 pm7 cd7 ct7 oc8 kV8 dc8 pm8 cd8 ct8 oc9 kV9 dc9 pm9 cd9 ct9 oc10 kV10 dc10 pm10 cd10 ct10 oc11 kV11 dc11 pm11 cd11 ct11 oc12 kV12 dc12 pm12 cd12 ct12 oc13 kV13 dc13 pm13 cd13 ct13 oc14 kV14 dc14 pm14 cd14 ct14 oc15 kV15 dc15 pm15 cd15 ct15 oc16 kV16 dc16 pm16 cd16 ct16 oc17 kV17 dc17 pm17 cd17 ct17 oc18 kV18 dc18 pm18 cd18 ct18 oc19 kV19 dc19 pm19 cd19 ct19 oc20 kV20 dc20 pm20 cd20 ct20 oc21 kV21 dc21 pm21 cd21 ct21 oc22 kV22 dc22 pm22 cd22 ct22 oc23 kV23 dc23 pm23 cd23 ct23 oc24 kV24 dc24 pm24 cd24 ct24 oc25 kV25 dc25 pm25 cd25 ct25 oc26 kV26 dc26 pm26 cd26 ct26 oc27 kV27 dc27 pm27 cd27 ct27 oc28 kV28 dc28 pm28 cd28 ct28 oc29 kV29 dc29 pm29 cd29 ct29 oc30 kV30 dc30 pm30 cd30 ct30 oc31 kV31 dc31 pm31 cd31 ct31 oc32 kV32 dc32 pm32 cd32 ct32 oc33 kV33 dc33 pm33 cd33 ct33 oc34 kV34 dc34 pm34 cd34 ct34 oc35 kV35 dc35 pm35 cd35 ct35 oc36 kV36 dc36 pm36 cd36 ct36 oc37 kV37 dc37 pm37 cd37 ct37 oc38 kV38 dc38 pm38 cd38 ct38 : Value}
    {fS s1 s2 s3 : Addr} {tk tk2 tk3 tk4 tk5 : Tok} {odS od1_ od2_ od3_ : Option Addr} {nS n1_ n2_ n3_ : Nat} {slS sl1_ sl2_ sl3_ : Array (Option Value)} {t1 t2 t3 t4 t5 t6 : Tok} {fXi fTl fTw fRu fWo fTe fAl fWi fTn fEq fIn CE CC CN CD TD q0 : Addr} {odXi anXi odTl anTl odTw anTw odRu anRu odWo anWo odTe anTe odAl anAl odWi anWi odTn anTn odEq anEq odIn anIn odT odq : Option Addr} {slXi slTl slTw slRu slWo slTe slAl slWi slTn slEq slIn slT slq : Array (Option Value)} {nT nq : Nat} {ocXi kVXi dcXi pmXi cdXi ctXi ocTl kVTl dcTl pmTl cdTl ctTl ocTw kVTw dcTw pmTw cdTw ctTw ocRu kVRu dcRu pmRu cdRu ctRu ocWo kVWo dcWo pmWo cdWo ctWo ocTe kVTe dcTe pmTe cdTe ctTe ocAl kVAl dcAl pmAl cdAl ctAl ocWi kVWi dcWi pmWi cdWi ctWi ocTn kVTn dcTn pmTn cdTn ctTn ocEq kVEq dcEq pmEq cdEq ctEq ocIn kVIn dcIn pmIn cdIn ctIn : Value} {c Pt : Addr} (ht : PySem.W.tabIn K "put" = some (c, Pt))
    (a1 : PySem.W.nsIn K mainGlobals "is_number" = some (some (.ref f1))) (l1 : K.lookup f1 = some ⟨oc1, od1, .func (PySem.W.fnOf "is_number" "is_number" (defArgs sNumber) (defBody sNumber) (defScope sNumber) .none kV1 dc1 pm1 an1 cd1 ct1), sl1⟩) (c1 : PySem.W.codeIn K cd1 "is_number" = true) (k1 : PySem.W.keepIn K (.ref f1) = true)
    (a2 : PySem.W.nsIn K mainGlobals "is_variable" = some (some (.ref f2))) (l2 : K.lookup f2 = some ⟨oc2, od2, .func (PySem.W.fnOf "is_variable" "is_variable" (defArgs sVariable) (defBody sVariable) (defScope sVariable) .none kV2 dc2 pm2 an2 cd2 ct2), sl2⟩) (c2 : PySem.W.codeIn K cd2 "is_variable" = true) (k2 : PySem.W.keepIn K (.ref f2) = true)
    (a3 : PySem.W.nsIn K mainGlobals "_has_shape" = some (some (.ref f3))) (l3 : K.lookup f3 = some ⟨oc3, od3, .func (PySem.W.fnOf "_has_shape" "_has_shape" (defArgs sShape) (defBody sShape) (defScope sShape) .none kV3 dc3 pm3 an3 cd3 ct3), sl3⟩) (c3 : PySem.W.codeIn K cd3 "_has_shape" = true) (k3 : PySem.W.keepIn K (.ref f3) = true)
    (a4 : PySem.W.nsIn K mainGlobals "is_term" = some (some (.ref f4))) (l4 : K.lookup f4 = some ⟨oc4, od4, .func (PySem.W.fnOf "is_term" "is_term" (defArgs sTerm) (defBody sTerm) (defScope sTerm) .none kV4 dc4 pm4 an4 cd4 ct4), sl4⟩) (c4 : PySem.W.codeIn K cd4 "is_term" = true) (k4 : PySem.W.keepIn K (.ref f4) = true)
    (a5 : PySem.W.nsIn K mainGlobals "_parts" = some (some (.ref f5))) (l5 : K.lookup f5 = some ⟨oc5, od5, .func (PySem.W.fnOf "_parts" "_parts" (defArgs sParts) (defBody sParts) (defScope sParts) .none kV5 dc5 pm5 an5 cd5 ct5), sl5⟩) (c5 : PySem.W.codeIn K cd5 "_parts" = true) (k5 : PySem.W.keepIn K (.ref f5) = true)
    (a6 : PySem.W.nsIn K mainGlobals "inside_out" = some (some (.ref f6))) (l6 : K.lookup f6 = some ⟨oc6, od6, .func (PySem.W.fnOf "inside_out" "inside_out" (defArgs sInside) (defBody sInside) (defScope sInside) .none kV6 dc6 pm6 an6 cd6 ct6), sl6⟩) (c6 : PySem.W.codeIn K cd6 "inside_out" = true) (k6 : PySem.W.keepIn K (.ref f6) = true)
    (a7 : PySem.W.nsIn K mainGlobals "fold" = some (some (.ref f7))) (l7 : K.lookup f7 = some ⟨oc7, od7, .func (PySem.W.fnOf "fold" "fold" (defArgs sFold) (defBody sFold) (defScope sFold) .none kV7 dc7 pm7 an7 cd7 ct7), sl7⟩) (c7 : PySem.W.codeIn K cd7 "fold" = true) (k7 : PySem.W.keepIn K (.ref f7) = true)
    (a8 : PySem.W.nsIn K mainGlobals "variables" = some (some (.ref f8))) (l8 : K.lookup f8 = some ⟨oc8, od8, .func (PySem.W.fnOf "variables" "variables" (defArgs sVars) (defBody sVars) (defScope sVars) .none kV8 dc8 pm8 an8 cd8 ct8), sl8⟩) (c8 : PySem.W.codeIn K cd8 "variables" = true) (k8 : PySem.W.keepIn K (.ref f8) = true)
    (a9 : PySem.W.nsIn K mainGlobals "put" = some (some (.ref f9))) (l9 : K.lookup f9 = some ⟨oc9, od9, .func (PySem.W.fnOf "put" "put" (defArgs sPut) (defBody sPut) (defScope sPut) .none kV9 dc9 pm9 an9 cd9 ct9), sl9⟩) (c9 : PySem.W.codeIn K cd9 "put" = true) (k9 : PySem.W.keepIn K (.ref f9) = true)
    (a10 : PySem.W.nsIn K mainGlobals "atom_variables" = some (some (.ref f10))) (l10 : K.lookup f10 = some ⟨oc10, od10, .func (PySem.W.fnOf "atom_variables" "atom_variables" (defArgs sAtomVars) (defBody sAtomVars) (defScope sAtomVars) .none kV10 dc10 pm10 an10 cd10 ct10), sl10⟩) (c10 : PySem.W.codeIn K cd10 "atom_variables" = true) (k10 : PySem.W.keepIn K (.ref f10) = true)
    (a11 : PySem.W.nsIn K mainGlobals "atom_put" = some (some (.ref f11))) (l11 : K.lookup f11 = some ⟨oc11, od11, .func (PySem.W.fnOf "atom_put" "atom_put" (defArgs sAtomPut) (defBody sAtomPut) (defScope sAtomPut) .none kV11 dc11 pm11 an11 cd11 ct11), sl11⟩) (c11 : PySem.W.codeIn K cd11 "atom_put" = true) (k11 : PySem.W.keepIn K (.ref f11) = true)
    (a12 : PySem.W.nsIn K mainGlobals "is_name" = some (some (.ref f12))) (l12 : K.lookup f12 = some ⟨oc12, od12, .func (PySem.W.fnOf "is_name" "is_name" (defArgs sIsName) (defBody sIsName) (defScope sIsName) .none kV12 dc12 pm12 an12 cd12 ct12), sl12⟩) (c12 : PySem.W.codeIn K cd12 "is_name" = true) (k12 : PySem.W.keepIn K (.ref f12) = true)
    (a13 : PySem.W.nsIn K mainGlobals "is_atom" = some (some (.ref f13))) (l13 : K.lookup f13 = some ⟨oc13, od13, .func (PySem.W.fnOf "is_atom" "is_atom" (defArgs sIsAtom) (defBody sIsAtom) (defScope sIsAtom) .none kV13 dc13 pm13 an13 cd13 ct13), sl13⟩) (c13 : PySem.W.codeIn K cd13 "is_atom" = true) (k13 : PySem.W.keepIn K (.ref f13) = true)
    (a14 : PySem.W.nsIn K mainGlobals "_head_variables" = some (some (.ref f14))) (l14 : K.lookup f14 = some ⟨oc14, od14, .func (PySem.W.fnOf "_head_variables" "_head_variables" (defArgs sHeadVars) (defBody sHeadVars) (defScope sHeadVars) .none kV14 dc14 pm14 an14 cd14 ct14), sl14⟩) (c14 : PySem.W.codeIn K cd14 "_head_variables" = true) (k14 : PySem.W.keepIn K (.ref f14) = true)
    (a15 : PySem.W.nsIn K mainGlobals "_is_head" = some (some (.ref f15))) (l15 : K.lookup f15 = some ⟨oc15, od15, .func (PySem.W.fnOf "_is_head" "_is_head" (defArgs sIsHead) (defBody sIsHead) (defScope sIsHead) .none kV15 dc15 pm15 an15 cd15 ct15), sl15⟩) (c15 : PySem.W.codeIn K cd15 "_is_head" = true) (k15 : PySem.W.keepIn K (.ref f15) = true)
    (a16 : PySem.W.nsIn K mainGlobals "_is_body" = some (some (.ref f16))) (l16 : K.lookup f16 = some ⟨oc16, od16, .func (PySem.W.fnOf "_is_body" "_is_body" (defArgs sIsBody) (defBody sIsBody) (defScope sIsBody) .none kV16 dc16 pm16 an16 cd16 ct16), sl16⟩) (c16 : PySem.W.codeIn K cd16 "_is_body" = true) (k16 : PySem.W.keepIn K (.ref f16) = true)
    (a17 : PySem.W.nsIn K mainGlobals "is_rule" = some (some (.ref f17))) (l17 : K.lookup f17 = some ⟨oc17, od17, .func (PySem.W.fnOf "is_rule" "is_rule" (defArgs sIsRule) (defBody sIsRule) (defScope sIsRule) .none kV17 dc17 pm17 an17 cd17 ct17), sl17⟩) (c17 : PySem.W.codeIn K cd17 "is_rule" = true) (k17 : PySem.W.keepIn K (.ref f17) = true)
    (a18 : PySem.W.nsIn K mainGlobals "_text_of" = some (some (.ref f18))) (l18 : K.lookup f18 = some ⟨oc18, od18, .func (PySem.W.fnOf "_text_of" "_text_of" (defArgs sTextOf) (defBody sTextOf) (defScope sTextOf) .none kV18 dc18 pm18 an18 cd18 ct18), sl18⟩) (c18 : PySem.W.codeIn K cd18 "_text_of" = true) (k18 : PySem.W.keepIn K (.ref f18) = true)
    (a19 : PySem.W.nsIn K mainGlobals "term_text" = some (some (.ref f19))) (l19 : K.lookup f19 = some ⟨oc19, od19, .func (PySem.W.fnOf "term_text" "term_text" (defArgs sTermText) (defBody sTermText) (defScope sTermText) .none kV19 dc19 pm19 an19 cd19 ct19), sl19⟩) (c19 : PySem.W.codeIn K cd19 "term_text" = true) (k19 : PySem.W.keepIn K (.ref f19) = true)
    (a20 : PySem.W.nsIn K mainGlobals "_number_of" = some (some (.ref f20))) (l20 : K.lookup f20 = some ⟨oc20, od20, .func (PySem.W.fnOf "_number_of" "_number_of" (defArgs sNumberOf) (defBody sNumberOf) (defScope sNumberOf) .none kV20 dc20 pm20 an20 cd20 ct20), sl20⟩) (c20 : PySem.W.codeIn K cd20 "_number_of" = true) (k20 : PySem.W.keepIn K (.ref f20) = true)
    (a21 : PySem.W.nsIn K mainGlobals "_from_signs" = some (some (.ref f21))) (l21 : K.lookup f21 = some ⟨oc21, od21, .func (PySem.W.fnOf "_from_signs" "_from_signs" (defArgs sFromSigns) (defBody sFromSigns) (defScope sFromSigns) .none kV21 dc21 pm21 an21 cd21 ct21), sl21⟩) (c21 : PySem.W.codeIn K cd21 "_from_signs" = true) (k21 : PySem.W.keepIn K (.ref f21) = true)
    (a22 : PySem.W.nsIn K mainGlobals "term_or_none" = some (some (.ref f22))) (l22 : K.lookup f22 = some ⟨oc22, od22, .func (PySem.W.fnOf "term_or_none" "term_or_none" (defArgs sTermOrNone) (defBody sTermOrNone) (defScope sTermOrNone) .none kV22 dc22 pm22 an22 cd22 ct22), sl22⟩) (c22 : PySem.W.codeIn K cd22 "term_or_none" = true) (k22 : PySem.W.keepIn K (.ref f22) = true)
    (a23 : PySem.W.nsIn K mainGlobals "atom_text" = some (some (.ref f23))) (l23 : K.lookup f23 = some ⟨oc23, od23, .func (PySem.W.fnOf "atom_text" "atom_text" (defArgs sAtomText) (defBody sAtomText) (defScope sAtomText) .none kV23 dc23 pm23 an23 cd23 ct23), sl23⟩) (c23 : PySem.W.codeIn K cd23 "atom_text" = true) (k23 : PySem.W.keepIn K (.ref f23) = true)
    (a24 : PySem.W.nsIn K mainGlobals "atom_or_none" = some (some (.ref f24))) (l24 : K.lookup f24 = some ⟨oc24, od24, .func (PySem.W.fnOf "atom_or_none" "atom_or_none" (defArgs sAtomOr) (defBody sAtomOr) (defScope sAtomOr) .none kV24 dc24 pm24 an24 cd24 ct24), sl24⟩) (c24 : PySem.W.codeIn K cd24 "atom_or_none" = true) (k24 : PySem.W.keepIn K (.ref f24) = true)
    (a25 : PySem.W.nsIn K mainGlobals "atom_in" = some (some (.ref f25))) (l25 : K.lookup f25 = some ⟨oc25, od25, .func (PySem.W.fnOf "atom_in" "atom_in" (defArgs sAtomIn) (defBody sAtomIn) (defScope sAtomIn) .none kV25 dc25 pm25 an25 cd25 ct25), sl25⟩) (c25 : PySem.W.codeIn K cd25 "atom_in" = true) (k25 : PySem.W.keepIn K (.ref f25) = true)
    (a26 : PySem.W.nsIn K mainGlobals "atoms_text" = some (some (.ref f26))) (l26 : K.lookup f26 = some ⟨oc26, od26, .func (PySem.W.fnOf "atoms_text" "atoms_text" (defArgs sAtomsText) (defBody sAtomsText) (defScope sAtomsText) .none kV26 dc26 pm26 an26 cd26 ct26), sl26⟩) (c26 : PySem.W.codeIn K cd26 "atoms_text" = true) (k26 : PySem.W.keepIn K (.ref f26) = true)
    (a27 : PySem.W.nsIn K mainGlobals "atoms_or_nones" = some (some (.ref f27))) (l27 : K.lookup f27 = some ⟨oc27, od27, .func (PySem.W.fnOf "atoms_or_nones" "atoms_or_nones" (defArgs sAtomsOr) (defBody sAtomsOr) (defScope sAtomsOr) .none kV27 dc27 pm27 an27 cd27 ct27), sl27⟩) (c27 : PySem.W.codeIn K cd27 "atoms_or_nones" = true) (k27 : PySem.W.keepIn K (.ref f27) = true)
    (a28 : PySem.W.nsIn K mainGlobals "rule_text" = some (some (.ref f28))) (l28 : K.lookup f28 = some ⟨oc28, od28, .func (PySem.W.fnOf "rule_text" "rule_text" (defArgs sRuleText) (defBody sRuleText) (defScope sRuleText) .none kV28 dc28 pm28 an28 cd28 ct28), sl28⟩) (c28 : PySem.W.codeIn K cd28 "rule_text" = true) (k28 : PySem.W.keepIn K (.ref f28) = true)
    (a29 : PySem.W.nsIn K mainGlobals "rule_or_none" = some (some (.ref f29))) (l29 : K.lookup f29 = some ⟨oc29, od29, .func (PySem.W.fnOf "rule_or_none" "rule_or_none" (defArgs sRuleOr) (defBody sRuleOr) (defScope sRuleOr) .none kV29 dc29 pm29 an29 cd29 ct29), sl29⟩) (c29 : PySem.W.codeIn K cd29 "rule_or_none" = true) (k29 : PySem.W.keepIn K (.ref f29) = true)
    (a30 : PySem.W.nsIn K mainGlobals "rule_in" = some (some (.ref f30))) (l30 : K.lookup f30 = some ⟨oc30, od30, .func (PySem.W.fnOf "rule_in" "rule_in" (defArgs sRuleIn) (defBody sRuleIn) (defScope sRuleIn) .none kV30 dc30 pm30 an30 cd30 ct30), sl30⟩) (c30 : PySem.W.codeIn K cd30 "rule_in" = true) (k30 : PySem.W.keepIn K (.ref f30) = true)
    (a31 : PySem.W.nsIn K mainGlobals "definitions_text" = some (some (.ref f31))) (l31 : K.lookup f31 = some ⟨oc31, od31, .func (PySem.W.fnOf "definitions_text" "definitions_text" (defArgs sDefsText) (defBody sDefsText) (defScope sDefsText) .none kV31 dc31 pm31 an31 cd31 ct31), sl31⟩) (c31 : PySem.W.codeIn K cd31 "definitions_text" = true) (k31 : PySem.W.keepIn K (.ref f31) = true)
    (a32 : PySem.W.nsIn K mainGlobals "definitions_in" = some (some (.ref f32))) (l32 : K.lookup f32 = some ⟨oc32, od32, .func (PySem.W.fnOf "definitions_in" "definitions_in" (defArgs sDefsIn) (defBody sDefsIn) (defScope sDefsIn) .none kV32 dc32 pm32 an32 cd32 ct32), sl32⟩) (c32 : PySem.W.codeIn K cd32 "definitions_in" = true) (k32 : PySem.W.keepIn K (.ref f32) = true)
    (a33 : PySem.W.nsIn K mainGlobals "_law_box" = some (some (.ref f33))) (l33 : K.lookup f33 = some ⟨oc33, od33, .func (PySem.W.fnOf "_law_box" "_law_box" (defArgs sBox) (defBody sBox) (defScope sBox) .none kV33 dc33 pm33 an33 cd33 ct33), sl33⟩) (c33 : PySem.W.codeIn K cd33 "_law_box" = true) (k33 : PySem.W.keepIn K (.ref f33) = true)
    (a34 : PySem.W.nsIn K mainGlobals "_law_take" = some (some (.ref f34))) (l34 : K.lookup f34 = some ⟨oc34, od34, .func (PySem.W.fnOf "_law_take" "_law_take" (defArgs sTake) (defBody sTake) (defScope sTake) .none kV34 dc34 pm34 an34 cd34 ct34), sl34⟩) (c34 : PySem.W.codeIn K cd34 "_law_take" = true) (k34 : PySem.W.keepIn K (.ref f34) = true)
    (a35 : PySem.W.nsIn K mainGlobals "_law_folded" = some (some (.ref f35))) (l35 : K.lookup f35 = some ⟨oc35, od35, .func (PySem.W.fnOf "_law_folded" "_law_folded" (defArgs sFolded) (defBody sFolded) (defScope sFolded) .none kV35 dc35 pm35 an35 cd35 ct35), sl35⟩) (c35 : PySem.W.codeIn K cd35 "_law_folded" = true) (k35 : PySem.W.keepIn K (.ref f35) = true)
    (a36 : PySem.W.nsIn K mainGlobals "_law_same" = some (some (.ref f36))) (l36 : K.lookup f36 = some ⟨oc36, od36, .func (PySem.W.fnOf "_law_same" "_law_same" (defArgs sSame) (defBody sSame) (defScope sSame) .none kV36 dc36 pm36 an36 cd36 ct36), sl36⟩) (c36 : PySem.W.codeIn K cd36 "_law_same" = true) (k36 : PySem.W.keepIn K (.ref f36) = true)
    (a37 : PySem.W.nsIn K mainGlobals "_law_refused" = some (some (.ref f37))) (l37 : K.lookup f37 = some ⟨oc37, od37, .func (PySem.W.fnOf "_law_refused" "_law_refused" (defArgs sRefused) (defBody sRefused) (defScope sRefused) .none kV37 dc37 pm37 an37 cd37 ct37), sl37⟩) (c37 : PySem.W.codeIn K cd37 "_law_refused" = true) (k37 : PySem.W.keepIn K (.ref f37) = true)
    (a38 : PySem.W.nsIn K mainGlobals "law" = some (some (.ref f38))) (l38 : K.lookup f38 = some ⟨oc38, od38, .func (PySem.W.fnOf "law" "law" (defArgs sLaw) (defBody sLaw) (defScope sLaw) .none kV38 dc38 pm38 an38 cd38 ct38), sl38⟩) (c38 : PySem.W.codeIn K cd38 "law" = true) (k38 : PySem.W.keepIn K (.ref f38) = true)
    (z1 : PySem.W.nsIn K mainGlobals "isinstance" = some none)
    (z2 : PySem.W.nsIn K mainGlobals "int" = some none)
    (z3 : PySem.W.nsIn K mainGlobals "len" = some none)
    (z4 : PySem.W.nsIn K mainGlobals "sorted" = some none)
    (z5 : PySem.W.nsIn K mainGlobals "list" = some none)
    (z6 : PySem.W.nsIn K mainGlobals "tuple" = some none)
    (z7 : PySem.W.nsIn K mainGlobals "all" = some none)
    (z8 : PySem.W.nsIn K mainGlobals "zip" = some none)
    (z9 : PySem.W.nsIn K mainGlobals "str" = some none)
    (z10 : PySem.W.nsIn K mainGlobals "bool" = some none)
    (z11 : PySem.W.nsIn K mainGlobals "range" = some none)
    (z12 : PySem.W.nsIn K mainGlobals "dict" = some none)
    (z13 : PySem.W.nsIn K mainGlobals "abs" = some none)
    (z14 : PySem.W.nsIn K mainGlobals "enumerate" = some none)
    (z15 : PySem.W.nsIn K mainGlobals "reversed" = some none)
    (z16 : PySem.W.nsIn K mainGlobals "ValueError" = some none)
    (xV : PySem.W.nsIn K mainGlobals "LAST_VARIABLE" = some (some (.int 99 tk)))
    (xM : PySem.W.nsIn K mainGlobals "MOST_SIGNS" = some (some (.int 200 tk2)))
    (xS : PySem.W.nsIn K mainGlobals "SHAPES" = some (some (.ref fS)))
    (xL : K.lookup fS = some ⟨.type "tuple", odS, .seq #[.ref s1, .ref s2, .ref s3] nS, slS⟩)
    (x1 : K.lookup s1 = some ⟨.type "tuple", od1_, .seq #[.str "0" t1, .int 1 t2] n1_, sl1_⟩)
    (x2 : K.lookup s2 = some ⟨.type "tuple", od2_, .seq #[.str "s" t3, .int 2 t4] n2_, sl2_⟩)
    (x3 : K.lookup s3 = some ⟨.type "tuple", od3_, .seq #[.str "f" t5, .int 3 t6] n3_, sl3_⟩)
    (xLe : PySem.W.nsIn K mainGlobals "LETTERS" = some (some (.str "abcdefghijklmnopqrstuvwxyz" tk3)))
    (xML : PySem.W.nsIn K mainGlobals "MOST_LETTERS" = some (some (.int 6 tk4)))
    (xMB : PySem.W.nsIn K mainGlobals "MOST_BODY" = some (some (.int 3 tk5)))
    (xnCE : PySem.W.nsIn K mainGlobals "RingError" = some (some (.ref CE)))
    (xnCC : PySem.W.nsIn K mainGlobals "Clash" = some (some (.ref CC)))
    (xnCN : PySem.W.nsIn K mainGlobals "NoRule" = some (some (.ref CN)))
    (xnCD : PySem.W.nsIn K mainGlobals "Definitions" = some (some (.ref CD)))
    (xaXi : PySem.W.findIn K (.ref CE) "__init__" = some (some (.ref fXi)))
    (xlXi : K.lookup fXi = some ⟨ocXi, odXi, .func (PySem.W.fnOf "__init__" "RingError.__init__" (defArgs sErrI) (defBody sErrI) (defScope sErrI) .none kVXi dcXi pmXi anXi cdXi ctXi), slXi⟩)
    (xcXi : PySem.W.codeIn K cdXi "RingError.__init__" = true)
    (xkXi : PySem.W.keepIn K (.ref fXi) = true)
    (xaTl : PySem.W.findIn K (.ref CD) "tell" = some (some (.ref fTl)))
    (xiTl : PySem.W.isFn K (.ref fTl) = true)
    (xlTl : K.lookup fTl = some ⟨ocTl, odTl, .func (PySem.W.fnOf "tell" "Definitions.tell" (defArgs sTell) (defBody sTell) (defScope sTell) .none kVTl dcTl pmTl anTl cdTl ctTl), slTl⟩)
    (xcTl : PySem.W.codeIn K cdTl "Definitions.tell" = true)
    (xkTl : PySem.W.keepIn K (.ref fTl) = true)
    (xaTw : PySem.W.findIn K (.ref CD) "_terms_with" = some (some (.ref fTw)))
    (xiTw : PySem.W.isFn K (.ref fTw) = true)
    (xlTw : K.lookup fTw = some ⟨ocTw, odTw, .func (PySem.W.fnOf "_terms_with" "Definitions._terms_with" (defArgs sTermsW) (defBody sTermsW) (defScope sTermsW) .none kVTw dcTw pmTw anTw cdTw ctTw), slTw⟩)
    (xcTw : PySem.W.codeIn K cdTw "Definitions._terms_with" = true)
    (xkTw : PySem.W.keepIn K (.ref fTw) = true)
    (xaRu : PySem.W.findIn K (.ref CD) "rules" = some (some (.ref fRu)))
    (xiRu : PySem.W.isFn K (.ref fRu) = true)
    (xlRu : K.lookup fRu = some ⟨ocRu, odRu, .func (PySem.W.fnOf "rules" "Definitions.rules" (defArgs sRules) (defBody sRules) (defScope sRules) .none kVRu dcRu pmRu anRu cdRu ctRu), slRu⟩)
    (xcRu : PySem.W.codeIn K cdRu "Definitions.rules" = true)
    (xkRu : PySem.W.keepIn K (.ref fRu) = true)
    (xaWo : PySem.W.findIn K (.ref CD) "words" = some (some (.ref fWo)))
    (xiWo : PySem.W.isFn K (.ref fWo) = true)
    (xlWo : K.lookup fWo = some ⟨ocWo, odWo, .func (PySem.W.fnOf "words" "Definitions.words" (defArgs sWordsM) (defBody sWordsM) (defScope sWordsM) .none kVWo dcWo pmWo anWo cdWo ctWo), slWo⟩)
    (xcWo : PySem.W.codeIn K cdWo "Definitions.words" = true)
    (xkWo : PySem.W.keepIn K (.ref fWo) = true)
    (xaTe : PySem.W.findIn K (.ref CD) "terms" = some (some (.ref fTe)))
    (xiTe : PySem.W.isFn K (.ref fTe) = true)
    (xlTe : K.lookup fTe = some ⟨ocTe, odTe, .func (PySem.W.fnOf "terms" "Definitions.terms" (defArgs sTermsM) (defBody sTermsM) (defScope sTermsM) .none kVTe dcTe pmTe anTe cdTe ctTe), slTe⟩)
    (xcTe : PySem.W.codeIn K cdTe "Definitions.terms" = true)
    (xkTe : PySem.W.keepIn K (.ref fTe) = true)
    (xaAl : PySem.W.findIn K (.ref CD) "all_rules" = some (some (.ref fAl)))
    (xiAl : PySem.W.isFn K (.ref fAl) = true)
    (xlAl : K.lookup fAl = some ⟨ocAl, odAl, .func (PySem.W.fnOf "all_rules" "Definitions.all_rules" (defArgs sAllR) (defBody sAllR) (defScope sAllR) .none kVAl dcAl pmAl anAl cdAl ctAl), slAl⟩)
    (xcAl : PySem.W.codeIn K cdAl "Definitions.all_rules" = true)
    (xkAl : PySem.W.keepIn K (.ref fAl) = true)
    (xaWi : PySem.W.findIn K (.ref CD) "without" = some (some (.ref fWi)))
    (xiWi : PySem.W.isFn K (.ref fWi) = true)
    (xlWi : K.lookup fWi = some ⟨ocWi, odWi, .func (PySem.W.fnOf "without" "Definitions.without" (defArgs sWithout) (defBody sWithout) (defScope sWithout) .none kVWi dcWi pmWi anWi cdWi ctWi), slWi⟩)
    (xcWi : PySem.W.codeIn K cdWi "Definitions.without" = true)
    (xkWi : PySem.W.keepIn K (.ref fWi) = true)
    (xaTn : PySem.W.findIn K (.ref CD) "twin" = some (some (.ref fTn)))
    (xiTn : PySem.W.isFn K (.ref fTn) = true)
    (xlTn : K.lookup fTn = some ⟨ocTn, odTn, .func (PySem.W.fnOf "twin" "Definitions.twin" (defArgs sTwin) (defBody sTwin) (defScope sTwin) .none kVTn dcTn pmTn anTn cdTn ctTn), slTn⟩)
    (xcTn : PySem.W.codeIn K cdTn "Definitions.twin" = true)
    (xkTn : PySem.W.keepIn K (.ref fTn) = true)
    (xaEq : PySem.W.findIn K (.ref CD) "__eq__" = some (some (.ref fEq)))
    (xiEq : PySem.W.isFn K (.ref fEq) = true)
    (xlEq : K.lookup fEq = some ⟨ocEq, odEq, .func (PySem.W.fnOf "__eq__" "Definitions.__eq__" (defArgs sEqM) (defBody sEqM) (defScope sEqM) .none kVEq dcEq pmEq anEq cdEq ctEq), slEq⟩)
    (xcEq : PySem.W.codeIn K cdEq "Definitions.__eq__" = true)
    (xkEq : PySem.W.keepIn K (.ref fEq) = true)
    (xaIn : PySem.W.findIn K (.ref CD) "__init__" = some (some (.ref fIn)))
    (xiIn : PySem.W.isFn K (.ref fIn) = true)
    (xlIn : K.lookup fIn = some ⟨ocIn, odIn, .func (PySem.W.fnOf "__init__" "Definitions.__init__" (defArgs sDInit) (defBody sDInit) (defScope sDInit) (.ref TD) kVIn dcIn pmIn anIn cdIn ctIn), slIn⟩)
    (xcIn : PySem.W.codeIn K cdIn "Definitions.__init__" = true)
    (xkIn : PySem.W.keepIn K (.ref fIn) = true)
    (xT : K.lookup TD = some ⟨.type "tuple", odT, .seq #[.ref q0] nT, slT⟩)
    (xQ : K.lookup q0 = some ⟨.type "tuple", odq, .seq #[] nq, slq⟩)
    (xty : PySem.W.typeIn K (.ref fXi) = some (.type "function"))
    (xvV : PySem.W.findCls K (.type "ValueError") (.type "type") "__init__" = some (.val (.builtin "ValueError.__init__")))
    (xpg : PySem.W.plainGet K CD Str.empty = true)
    (xhd : PySem.W.hasDictIn K CD = true)
    (xpo : PySem.W.plainOver K CD = true)
    (xsa : PySem.W.findIn K (.ref CD) "__setattr__" = some (some (.builtin "object.__setattr__")))
    (xmk : PySem.W.makesIn K CD = true)
    (xkc : PySem.W.keepIn K (.ref CD) = true)
    (xnT : PySem.W.findIn K (.ref CD) "_told" = some none)
    (xnM : PySem.W.findIn K (.ref CD) "_terms" = some none)
    (xKC : klsB K fXi CC = true)
    (xKN : klsB K fXi CN = true)
    (xE : (decide (PySem.W.exmOne K (.ref CC) (.ref CE) = some true) && (decide (PySem.W.exmOne K (.ref CN) (.ref CE) = some true) && (decide (PySem.W.kitOne K (.ref CC) (.ref CC) = some true) && (decide (PySem.W.kitOne K (.ref CN) (.ref CN) = some true))))) = true)
    (xI : (decide (PySem.W.findIn K (.ref CD) "__class__" = some (some (.builtin "object.__class__"))) && (decide (PySem.W.specialIn K (.builtin "object.__class__") "__get__" = some (some (.builtin "getset_descriptor.__get__"))) && (decide (PySem.W.takesIn K (.builtin "object.__class__") = some true) && (decide (PySem.W.mroIn K CD (.type "object") = some true) && (decide (PySem.W.kitOne K (.ref CD) (.ref CD) = some true) && (decide (PySem.W.findIn K (.ref CD) "__ne__" = some (some (.builtin "object.__ne__"))) && (decide (PySem.W.subIn K (.ref CD) (.type "object") = some true)))))))) = true)
    : ∃ fd : FuncData, (∀ (s : Shared) (v : Value), BindsTo s fd ⟨[v], []⟩ [("_law_script", v)]) ∧ ∀ base : Heap, K.In base → base.Ns mainGlobals mg → LamX.TabB base mg c Pt → GnOk l.prog w K mg base 62 fa fd ["_law_script"] (spLaw [(Pt, nmEx)] K) := by
  have e := hfa.symm.trans (PySem.W.mg_of X G a38)
  cases e
  have F1 := fun_mk (st := sNumber) l1 c1 k1
  have b1 := F1.binds (ps := ["thing"]) fun _ _ _ _ _ _ us hl => match us, hl with | [_], _ => rfl
  have m1 := PySem.W.mg_of X G a1
  have F2 := fun_mk (st := sVariable) l2 c2 k2
  have b2 := F2.binds (ps := ["thing"]) fun _ _ _ _ _ _ us hl => match us, hl with | [_], _ => rfl
  have m2 := PySem.W.mg_of X G a2
  have F3 := fun_mk (st := sShape) l3 c3 k3
  have b3 := F3.binds (ps := ["thing"]) fun _ _ _ _ _ _ us hl => match us, hl with | [_], _ => rfl
  have m3 := PySem.W.mg_of X G a3
  have F4 := fun_mk (st := sTerm) l4 c4 k4
  have b4 := F4.binds (ps := ["thing"]) fun _ _ _ _ _ _ us hl => match us, hl with | [_], _ => rfl
  have m4 := PySem.W.mg_of X G a4
  have F5 := fun_mk (st := sParts) l5 c5 k5
  have b5 := F5.binds (ps := ["term"]) fun _ _ _ _ _ _ us hl => match us, hl with | [_], _ => rfl
  have m5 := PySem.W.mg_of X G a5
  have F6 := fun_mk (st := sInside) l6 c6 k6
  have b6 := F6.binds (ps := ["term"]) fun _ _ _ _ _ _ us hl => match us, hl with | [_], _ => rfl
  have m6 := PySem.W.mg_of X G a6
  have F7 := fun_mk (st := sFold) l7 c7 k7
  have b7 := F7.binds (ps := ["term", "made_of"]) fun _ _ _ _ _ _ us hl => match us, hl with | [_, _], _ => rfl
  have m7 := PySem.W.mg_of X G a7
  have F8 := fun_mk (st := sVars) l8 c8 k8
  have b8 := F8.binds (ps := ["term"]) fun _ _ _ _ _ _ us hl => match us, hl with | [_], _ => rfl
  have m8 := PySem.W.mg_of X G a8
  have F9 := fun_mk (st := sPut) l9 c9 k9
  have b9 := F9.binds (ps := ["term", "binding"]) fun _ _ _ _ _ _ us hl => match us, hl with | [_, _], _ => rfl
  have m9 := PySem.W.mg_of X G a9
  have F10 := fun_mk (st := sAtomVars) l10 c10 k10
  have b10 := F10.binds (ps := ["atom"]) fun _ _ _ _ _ _ us hl => match us, hl with | [_], _ => rfl
  have m10 := PySem.W.mg_of X G a10
  have F11 := fun_mk (st := sAtomPut) l11 c11 k11
  have b11 := F11.binds (ps := ["atom", "binding"]) fun _ _ _ _ _ _ us hl => match us, hl with | [_, _], _ => rfl
  have m11 := PySem.W.mg_of X G a11
  have F12 := fun_mk (st := sIsName) l12 c12 k12
  have b12 := F12.binds (ps := ["thing"]) fun _ _ _ _ _ _ us hl => match us, hl with | [_], _ => rfl
  have m12 := PySem.W.mg_of X G a12
  have F13 := fun_mk (st := sIsAtom) l13 c13 k13
  have b13 := F13.binds (ps := ["thing"]) fun _ _ _ _ _ _ us hl => match us, hl with | [_], _ => rfl
  have m13 := PySem.W.mg_of X G a13
  have F14 := fun_mk (st := sHeadVars) l14 c14 k14
  have b14 := F14.binds (ps := ["head"]) fun _ _ _ _ _ _ us hl => match us, hl with | [_], _ => rfl
  have m14 := PySem.W.mg_of X G a14
  have F15 := fun_mk (st := sIsHead) l15 c15 k15
  have b15 := F15.binds (ps := ["thing"]) fun _ _ _ _ _ _ us hl => match us, hl with | [_], _ => rfl
  have m15 := PySem.W.mg_of X G a15
  have F16 := fun_mk (st := sIsBody) l16 c16 k16
  have b16 := F16.binds (ps := ["thing", "known"]) fun _ _ _ _ _ _ us hl => match us, hl with | [_, _], _ => rfl
  have m16 := PySem.W.mg_of X G a16
  have F17 := fun_mk (st := sIsRule) l17 c17 k17
  have b17 := F17.binds (ps := ["thing"]) fun _ _ _ _ _ _ us hl => match us, hl with | [_], _ => rfl
  have m17 := PySem.W.mg_of X G a17
  have F18 := fun_mk (st := sTextOf) l18 c18 k18
  have b18 := F18.binds (ps := ["part", "texts"]) fun _ _ _ _ _ _ us hl => match us, hl with | [_, _], _ => rfl
  have m18 := PySem.W.mg_of X G a18
  have F19 := fun_mk (st := sTermText) l19 c19 k19
  have b19 := F19.binds (ps := ["term"]) fun _ _ _ _ _ _ us hl => match us, hl with | [_], _ => rfl
  have m19 := PySem.W.mg_of X G a19
  have F20 := fun_mk (st := sNumberOf) l20 c20 k20
  have b20 := F20.binds (ps := ["sign"]) fun _ _ _ _ _ _ us hl => match us, hl with | [_], _ => rfl
  have m20 := PySem.W.mg_of X G a20
  have F21 := fun_mk (st := sFromSigns) l21 c21 k21
  have b21 := F21.binds (ps := ["signs"]) fun _ _ _ _ _ _ us hl => match us, hl with | [_], _ => rfl
  have m21 := PySem.W.mg_of X G a21
  have F22 := fun_mk (st := sTermOrNone) l22 c22 k22
  have b22 := F22.binds (ps := ["text"]) fun _ _ _ _ _ _ us hl => match us, hl with | [_], _ => rfl
  have m22 := PySem.W.mg_of X G a22
  have F23 := fun_mk (st := sAtomText) l23 c23 k23
  have b23 := F23.binds (ps := ["atom"]) fun _ _ _ _ _ _ us hl => match us, hl with | [_], _ => rfl
  have m23 := PySem.W.mg_of X G a23
  have F24 := fun_mk (st := sAtomOr) l24 c24 k24
  have b24 := F24.binds (ps := ["text"]) fun _ _ _ _ _ _ us hl => match us, hl with | [_], _ => rfl
  have m24 := PySem.W.mg_of X G a24
  have F25 := fun_mk (st := sAtomIn) l25 c25 k25
  have b25 := F25.binds (ps := ["text"]) fun _ _ _ _ _ _ us hl => match us, hl with | [_], _ => rfl
  have m25 := PySem.W.mg_of X G a25
  have F26 := fun_mk (st := sAtomsText) l26 c26 k26
  have b26 := F26.binds (ps := ["atoms"]) fun _ _ _ _ _ _ us hl => match us, hl with | [_], _ => rfl
  have m26 := PySem.W.mg_of X G a26
  have F27 := fun_mk (st := sAtomsOr) l27 c27 k27
  have b27 := F27.binds (ps := ["text"]) fun _ _ _ _ _ _ us hl => match us, hl with | [_], _ => rfl
  have m27 := PySem.W.mg_of X G a27
  have F28 := fun_mk (st := sRuleText) l28 c28 k28
  have b28 := F28.binds (ps := ["rule"]) fun _ _ _ _ _ _ us hl => match us, hl with | [_], _ => rfl
  have m28 := PySem.W.mg_of X G a28
  have F29 := fun_mk (st := sRuleOr) l29 c29 k29
  have b29 := F29.binds (ps := ["text"]) fun _ _ _ _ _ _ us hl => match us, hl with | [_], _ => rfl
  have m29 := PySem.W.mg_of X G a29
  have F30 := fun_mk (st := sRuleIn) l30 c30 k30
  have b30 := F30.binds (ps := ["text"]) fun _ _ _ _ _ _ us hl => match us, hl with | [_], _ => rfl
  have m30 := PySem.W.mg_of X G a30
  have F31 := fun_mk (st := sDefsText) l31 c31 k31
  have b31 := F31.binds (ps := ["defs"]) fun _ _ _ _ _ _ us hl => match us, hl with | [_], _ => rfl
  have m31 := PySem.W.mg_of X G a31
  have F32 := fun_mk (st := sDefsIn) l32 c32 k32
  have b32 := F32.binds (ps := ["text"]) fun _ _ _ _ _ _ us hl => match us, hl with | [_], _ => rfl
  have m32 := PySem.W.mg_of X G a32
  have F33 := fun_mk (st := sBox) l33 c33 k33
  have b33 := F33.binds (ps := ["_law_script", "_law_k"]) fun _ _ _ _ _ _ us hl => match us, hl with | [_, _], _ => rfl
  have m33 := PySem.W.mg_of X G a33
  have F34 := fun_mk (st := sTake) l34 c34 k34
  have b34 := F34.binds (ps := ["_law_box_here", "_law_top"]) fun _ _ _ _ _ _ us hl => match us, hl with | [_, _], _ => rfl
  have m34 := PySem.W.mg_of X G a34
  have F35 := fun_mk (st := sFolded) l35 c35 k35
  have b35 := F35.binds (ps := ["_law_script", "_law_count"]) fun _ _ _ _ _ _ us hl => match us, hl with | [_, _], _ => rfl
  have m35 := PySem.W.mg_of X G a35
  have F36 := fun_mk (st := sSame) l36 c36 k36
  have b36 := F36.binds (ps := ["_law_found", "_law_due"]) fun _ _ _ _ _ _ us hl => match us, hl with | [_, _], _ => rfl
  have m36 := PySem.W.mg_of X G a36
  have F37 := fun_mk (st := sRefused) l37 c37 k37
  have b37 := F37.binds (ps := ["_law_made", "_law_one", "_law_way"]) fun _ _ _ _ _ _ us hl => match us, hl with | [_, _, _], _ => rfl
  have m37 := PySem.W.mg_of X G a37
  have F38 := fun_mk (st := sLaw) l38 c38 k38
  have y1 := PySem.W.mg_none_of X G z1
  have y2 := PySem.W.mg_none_of X G z2
  have y3 := PySem.W.mg_none_of X G z3
  have y4 := PySem.W.mg_none_of X G z4
  have y5 := PySem.W.mg_none_of X G z5
  have y6 := PySem.W.mg_none_of X G z6
  have y7 := PySem.W.mg_none_of X G z7
  have y8 := PySem.W.mg_none_of X G z8
  have y9 := PySem.W.mg_none_of X G z9
  have y10 := PySem.W.mg_none_of X G z10
  have y11 := PySem.W.mg_none_of X G z11
  have y12 := PySem.W.mg_none_of X G z12
  have y13 := PySem.W.mg_none_of X G z13
  have y14 := PySem.W.mg_none_of X G z14
  have y15 := PySem.W.mg_none_of X G z15
  have y16 := PySem.W.mg_none_of X G z16
  refine ⟨PySem.W.fnOf "law" "law" (defArgs sLaw) (defBody sLaw) (defScope sLaw) .none kV38 dc38 pm38 an38 cd38 ct38, fun s v => .of_eq rfl, fun base _ _ TB => ?_⟩
  have hcode := PySem.W.law_code X G ht m9 (X _ _ l9) rfl
  obtain ⟨eE0, xE⟩ := Bool.and_eq_true_iff.mp xE
  obtain ⟨eE1, xE⟩ := Bool.and_eq_true_iff.mp xE
  obtain ⟨eE2, eE3⟩ := Bool.and_eq_true_iff.mp xE
  obtain ⟨eI0, xI⟩ := Bool.and_eq_true_iff.mp xI
  obtain ⟨eI1, xI⟩ := Bool.and_eq_true_iff.mp xI
  obtain ⟨eI2, xI⟩ := Bool.and_eq_true_iff.mp xI
  obtain ⟨eI3, xI⟩ := Bool.and_eq_true_iff.mp xI
  obtain ⟨eI4, xI⟩ := Bool.and_eq_true_iff.mp xI
  obtain ⟨eI5, eI6⟩ := Bool.and_eq_true_iff.mp xI
  have c0 : ∀ H, SqT K H fS [V.ref s1, .ref s2, .ref s3] := fun H => .inr ⟨_, _, _, xL, rfl, rfl, (by show 3 ≤ sizeLine; decide), .cons rfl (.cons rfl (.cons rfl .nil))⟩
  have c1 : ∀ H, SqT K H s1 [V.str "0", .int 1] := fun H => .inr ⟨_, _, _, x1, rfl, rfl, (by show 2 ≤ sizeLine; decide), .cons ⟨_, rfl⟩ (.cons ⟨_, rfl⟩ .nil)⟩
  have c2 : ∀ H, SqT K H s2 [V.str "s", .int 2] := fun H => .inr ⟨_, _, _, x2, rfl, rfl, (by show 2 ≤ sizeLine; decide), .cons ⟨_, rfl⟩ (.cons ⟨_, rfl⟩ .nil)⟩
  have c3 : ∀ H, SqT K H s3 [V.str "f", .int 3] := fun H => .inr ⟨_, _, _, x3, rfl, rfl, (by show 2 ≤ sizeLine; decide), .cons ⟨_, rfl⟩ (.cons ⟨_, rfl⟩ .nil)⟩
  have hS : ∀ H, Dp K H (.ref fS) shapesD := fun H =>
    .tup (c0 H) (.cons (.tup (c1 H) (.cons (.str _) (.cons (.int _) .nil))) (.cons (.tup (c2 H) (.cons (.str _) (.cons (.int _) .nil))) (.cons (.tup (c3 H) (.cons (.str _) (.cons (.int _) .nil))) .nil)))
  obtain ⟨kOex, kIni, kWh, kExc, kXf⟩ := klsB_ok xKC
  obtain ⟨nOex, nIni, nWh, nExc, nXf⟩ := klsB_ok xKN
  have D : DfK K CD := ⟨⟨xpg, xhd, xpo, xsa⟩, xnT, xnM⟩
  have EK : ErrK K fXi CC := ⟨kOex, kIni, xty, kWh⟩
  have EN : ErrK K fXi CN := ⟨nOex, nIni, xty, nWh⟩
  have ER : ErrR K mg CE CC CN := ⟨(PySem.W.mg_of X G xnCE), (PySem.W.mg_of X G xnCC), (PySem.W.mg_of X G xnCN), of_decide_eq_true eE0, of_decide_eq_true eE1, of_decide_eq_true eE2, of_decide_eq_true eE3, kExc, nExc, kXf, nXf, kWh, nWh⟩
  have IC : C8.InsC K CD := ⟨D.cls, of_decide_eq_true eI0, of_decide_eq_true eI1, of_decide_eq_true eI2, of_decide_eq_true eI3, of_decide_eq_true eI4⟩
  have EM : EqM K CD fEq := ⟨xaEq, xiEq, of_decide_eq_true eI5, of_decide_eq_true eI6⟩
  have FXi := fun_mk (st := sErrI) xlXi xcXi xkXi
  have bXi := FXi.binds (ps := ["self", "what"]) fun _ _ _ _ _ _ us hl => match us, hl with | [_, _], _ => rfl
  have FTl := fun_mk (st := sTell) xlTl xcTl xkTl
  have bTl := FTl.binds (ps := ["self", "rule"]) fun _ _ _ _ _ _ us hl => match us, hl with | [_, _], _ => rfl
  have FTw := fun_mk (st := sTermsW) xlTw xcTw xkTw
  have bTw := FTw.binds (ps := ["self", "rule"]) fun _ _ _ _ _ _ us hl => match us, hl with | [_, _], _ => rfl
  have FRu := fun_mk (st := sRules) xlRu xcRu xkRu
  have bRu := FRu.binds (ps := ["self", "word"]) fun _ _ _ _ _ _ us hl => match us, hl with | [_, _], _ => rfl
  have FWo := fun_mk (st := sWordsM) xlWo xcWo xkWo
  have bWo := FWo.binds (ps := ["self"]) fun _ _ _ _ _ _ us hl => match us, hl with | [_], _ => rfl
  have FTe := fun_mk (st := sTermsM) xlTe xcTe xkTe
  have bTe := FTe.binds (ps := ["self", "word"]) fun _ _ _ _ _ _ us hl => match us, hl with | [_, _], _ => rfl
  have FAl := fun_mk (st := sAllR) xlAl xcAl xkAl
  have bAl := FAl.binds (ps := ["self"]) fun _ _ _ _ _ _ us hl => match us, hl with | [_], _ => rfl
  have FWi := fun_mk (st := sWithout) xlWi xcWi xkWi
  have bWi := FWi.binds (ps := ["self", "place"]) fun _ _ _ _ _ _ us hl => match us, hl with | [_, _], _ => rfl
  have FTn := fun_mk (st := sTwin) xlTn xcTn xkTn
  have bTn := FTn.binds (ps := ["self"]) fun _ _ _ _ _ _ us hl => match us, hl with | [_], _ => rfl
  have FEq := fun_mk (st := sEqM) xlEq xcEq xkEq
  have bEq := FEq.binds (ps := ["self", "other"]) fun _ _ _ _ _ _ us hl => match us, hl with | [_, _], _ => rfl
  have hq0 : ∀ H' : Hp, SqT K H' q0 [] := fun H' => .inr ⟨_, _, _, xQ, rfl, rfl, (by show 0 ≤ sizeLine; decide), .nil⟩
  have FIn : FunD K "__init__" "Definitions.__init__" (defArgs sDInit) (defBody sDInit) (defScope sDInit) [.ref q0] [] fIn _ := ⟨⟨_, _, _, _, _, _, _, _, _, _, rfl, xlIn, xcIn, .inr ⟨by simp, TD, _, [.ref q0], _, rfl, xT, rfl, .cons rfl .nil⟩, .inl rfl⟩, xkIn⟩
  obtain ⟨ds1, v1, bI1⟩ := FIn.binds1 (ps := ["self", "rules"]) 1 0 (by simp) rfl fun _ _ _ _ _ _ _ us its hu hi => match us, its, hu, hi with | [_], [_], _, _ => ⟨_, rfl, rfl⟩
  obtain ⟨ds2, v2, bI2⟩ := FIn.binds1 (ps := ["self", "rules"]) 2 1 (by simp) rfl fun _ _ _ _ _ _ _ us its hu hi => match us, its, hu, hi with | [_, _], [_], _, _ => ⟨_, rfl, rfl⟩
  obtain ⟨its3, qI3⟩ := FIn.kbindsD (ps := ["self", "rules"]) 1 ["rules"] (fun us _ ws => us ++ ws) (by simp) (fun r1 _ r3 => r1.append r3) fun _ _ _ _ _ _ _ us its ws hu hi hw => match us, its, ws, hu, hi, hw with | [_], [_], [_], _, _, _ => ⟨_, rfl, rfl⟩
  have d1 : ds1 = [.ref q0] := by
    cases v1 with
    | cons r1 r2 => cases r1; cases r2; rfl
  have d2 : ds2 = [] := by
    cases v2 with
    | nil => rfl
  subst d1 d2
  have Mx : Mk K CD fIn := ⟨xmk, xaIn, xiIn, xkc⟩
  have M : SameG mg := ⟨y1, y5, y6, y3, y7, y8, y9, y2, y10⟩
  have GXi := ok_xinit (P := l.prog) (w := w) (base := base) FXi y16 xvV
  have GTw := ok_termsw (P := l.prog) (w := w) (base := base) FTw D EK GXi bXi (PySem.W.mg_of X G xnCC) y12 y3
  have GRu := ok_rulesm (P := l.prog) (w := w) (base := base) (mg := mg) FRu D
  have GWo := ok_wordsm (P := l.prog) (w := w) (base := base) FWo D y4
  have GTe := ok_termsm (P := l.prog) (w := w) (base := base) (mg := mg) FTe D
  have GAl := ok_allr (P := l.prog) (w := w) (base := base) FAl D y5
  have GTl := ok_tell FTl D GTw ⟨xaTw, xiTw, xkTw⟩ bTw GRu ⟨xaRu, xiRu, xkRu⟩ bRu y3
  have GIn := ok_dinit FIn D GTl ⟨xaTl, xiTl, xkTl⟩ bTl
  have GWi := ok_without FWi D Mx (PySem.W.mg_of X G xnCD) EN GXi bXi (PySem.W.mg_of X G xnCN) GIn bI2 y3
  have GTn := ok_twin FTn D Mx (PySem.W.mg_of X G xnCD) GIn bI2
  have GEq := ok_eqm (P := l.prog) (w := w) (base := base) FEq D IC (PySem.W.mg_of X G xnCD) y1
  have kTl := kb_self (o := "self") (p := "rule") FTl (fun _ _ _ _ _ _ _ _ => rfl)
  have kRu := kb_self (o := "self") (p := "word") FRu (fun _ _ _ _ _ _ _ _ => rfl)
  have kTe := kb_self (o := "self") (p := "word") FTe (fun _ _ _ _ _ _ _ _ => rfl)
  have kWi := kb_self (o := "self") (p := "place") FWi (fun _ _ _ _ _ _ _ _ => rfl)
  have GRf := ok_refused F37 D ER GTl ⟨xaTl, xiTl, xkTl⟩ kTl GWi ⟨xaWi, xiWi, xkWi⟩ kWi y1
  have GN := ok_number (P := l.prog) (w := w) (base := base) F1 M
  have GVa := ok_variable F2 GN k1 b1 m1 (PySem.W.mg_of X G xV)
  have GSh := ok_shape (P := l.prog) (w := w) (base := base) F3 M (PySem.W.mg_of X G xS) hS
  have GTm := ok_term F4 GSh k3 b3 m3 GVa k2 b2 m2
  have GPa := ok_parts (P := l.prog) (w := w) (base := base) F5 y1 y2
  have GI := ok_inside (P := l.prog) (w := w) (base := base) F6 F5 b5 m5 y1 y2
  have GTO := ok_textof (P := l.prog) (w := w) (base := base) F18 y1 y2
  have GFq := ok_foldq (P := l.prog) (w := w) (base := base) F7 GI k6 b6 m6 GPa k5 b5 m5 y3 y1 y2
  have GFo := ok_fold F7 GI k6 b6 m6 GPa k5 b5 m5 GTO k18 b18 y3
  have GPu := ok_put (P := l.prog) (w := w) (base := base) F9 hcode TB GFq k7 b7 m7 y12
  have GVs := ok_vars F8 GI k6 b6 m6 y4 y1 y2
  have GAV := ok_avars F10 GVs k8 b8 m8 y4
  have GAP := ok_aput F11 GPu k9 b9 m9
  have GTx := ok_termtext F19 GFo k7 b7 m7 m18
  have GNo := ok_numberof (P := l.prog) (w := w) (base := base) F20 y3 y2
  have GFs := ok_fromsigns F21 GNo k20 b20 m20 y3 y15
  have GOr := ok_termor F22 GFs k21 b21 m21 GTx k19 b19 m19 y3 (PySem.W.mg_of X G xM)
  have GNm := ok_isname (P := l.prog) (w := w) (base := base) F12 M (PySem.W.mg_of X G xLe) (PySem.W.mg_of X G xML)
  have GIa := ok_isatom F13 GNm k12 b12 m12 GTm k4 b4 m4 M
  have GAt := ok_atomtext F23 GTx k19 b19 m19
  have GAo := ok_atomor F24 GOr k22 b22 m22 GIa k13 b13 m13
  have GAi := ok_atomin F25 GAo k24 b24 m24
  have GHv := ok_headvars (P := l.prog) (w := w) (base := base) F14 M
  have GIh := ok_ishead F15 GIa k13 b13 m13 GHv k14 b14 m14 y5 y11 y3
  have GIb := ok_isbody F16 GIa k13 b13 m13 (PySem.W.mg_of X G xMB) M
  have GIr := ok_isrule F17 GIh k15 b15 m15 GHv k14 b14 m14 GIb k16 b16 m16 M
  have GAs := ok_atomstext F26 GAt k23 b23 m23
  have GRt := ok_ruletext F28 GAt k23 b23 m23 GAs k26 b26 m26
  have GAn := ok_atomsor F27 GAo k24 b24 m24 y6
  have GRo := ok_ruleor F29 GAo k24 b24 m24 GAn k27 b27 m27 GIr k17 b17 m17
  have GRi := ok_rulein F30 GRo k29 b29 m29
  have GDT := ok_defstext F31 D GAl ⟨xaAl, xiAl, xkAl⟩ bAl GRt k28 b28 m28
  have GDI := ok_defsin F32 D Mx (PySem.W.mg_of X G xnCD) GIn bI1 hq0 GTl ⟨xaTl, xiTl, xkTl⟩ bTl GRi k30 b30 m30 y14
  have GS := same_ok (P := l.prog) (w := w) (base := base) F36 b36 m36 M 61
  have GTk := ok_take (P := l.prog) (w := w) (mg := mg) (base := base) F34
  have GFd := ok_folded (P := l.prog) (w := w) (base := base) F35 y5 y14
  have GBx := ok_box (P := l.prog) (w := w) (base := base) F33 y3 y13 y2
  exact gn_of (ok_law F38 GFd k35 b35 m35 GBx k33 b33 m33 GTk k34 b34 m34
    GNm k12 b12 (kb_one (p := "thing") F12 (fun _ _ _ _ _ _ _ => rfl) (fun _ _ _ _ _ _ _ => rfl)) m12 GIa k13 b13 (kb_one (p := "thing") F13 (fun _ _ _ _ _ _ _ => rfl) (fun _ _ _ _ _ _ _ => rfl)) m13 GIr k17 b17 (kb_one (p := "thing") F17 (fun _ _ _ _ _ _ _ => rfl) (fun _ _ _ _ _ _ _ => rfl)) m17
    GAV k10 b10 (kb_one (p := "atom") F10 (fun _ _ _ _ _ _ _ => rfl) (fun _ _ _ _ _ _ _ => rfl)) m10 GAP k11 b11 (kb_two (o := "atom") (p := "binding") F11 (fun _ _ _ _ _ _ _ _ => rfl)) m11
    GAt k23 b23 (kb_one (p := "atom") F23 (fun _ _ _ _ _ _ _ => rfl) (fun _ _ _ _ _ _ _ => rfl)) m23 GRt k28 b28 (kb_one (p := "rule") F28 (fun _ _ _ _ _ _ _ => rfl) (fun _ _ _ _ _ _ _ => rfl)) m28
    GAi k25 (kb_one (p := "text") F25 (fun _ _ _ _ _ _ _ => rfl) (fun _ _ _ _ _ _ _ => rfl)) m25 GRi k30 (kb_one (p := "text") F30 (fun _ _ _ _ _ _ _ => rfl) (fun _ _ _ _ _ _ _ => rfl)) m30 GS k36 b36 m36
    D Mx (PySem.W.mg_of X G xnCD) GIn bI2 bI1 hq0 qI3 GTl ⟨xaTl, xiTl, xkTl⟩ bTl kTl GRu ⟨xaRu, xiRu, xkRu⟩ kRu GTe ⟨xaTe, xiTe, xkTe⟩ kTe GWo ⟨xaWo, xiWo, xkWo⟩ bWo GWi ⟨xaWi, xiWi, xkWi⟩ kWi GAl ⟨xaAl, xiAl, xkAl⟩ bAl
    GDT k31 b31 (kb_one (p := "defs") F31 (fun _ _ _ _ _ _ _ => rfl) (fun _ _ _ _ _ _ _ => rfl)) m31 GDI k32 (kb_one (p := "text") F32 (fun _ _ _ _ _ _ _ => rfl) (fun _ _ _ _ _ _ _ => rfl)) m32 GTn ⟨xaTn, xiTn, xkTn⟩ bTn GEq bEq EM GRf k37 b37 m37 y11 y3)
theorem walk {l : PySem.W.OpenLaw} {q : Program} {loose : List Str} {XP : (Str → Option Value) → Heap → Prop} {YP : World → Heap → Prop} {d : DefRec} {K : Params → PySem.W.Frag} (hn : l.most = some 63) (hdf : d.params.defaults = [])
    (hY : ∀ (w : World) (h : Heap), YP w h → (K w.params).In h) (hrec : ((PyProof.Rows.recsOf q).find? fun e => e.name == ("put" : Str)).isSome = true) (htab : ∀ w : World, tabB (K w.params) "put" = true)
    (F : ∀ (w : World) (mg : Str → Option Value) (fa c Pt : Addr) (h : Heap), (K w.params).In h → h.Ns mainGlobals mg → mg d.name = some (.ref fa) → PySem.W.tabIn (K w.params) "put" = some (c, Pt) →
      ∃ fd : FuncData, (∀ (s : Shared) (u : Value), BindsTo s fd ⟨[u], []⟩ [("_law_script", u)]) ∧ ∀ base : Heap, (K w.params).In base → base.Ns mainGlobals mg → LamX.TabB base mg c Pt → GnOk l.prog w (K w.params) mg base 62 fa fd ["_law_script"] (spLaw [(Pt, nmEx)] (K w.params))) :
    PySem.W.WalkO q loose XP YP l.row.toRowW d [] (fun f vs => PySem.call f vs) :=
  walk_ofGT (n := 63) (k := 62) (x := "_law_script") (sp := spLaw) (nm := nmEx) hn (by decide) hdf ⟨rfl, by decide, by decide⟩ hY hrec htab F
    (fun _ _ a Pt ns hl hP hS => ⟨a, ns, rfl, hS, hl, fun p hp => by rw [List.mem_singleton.mp hp]; exact NdefX.TabN.nil hP, fun _ => rfl⟩)
end Rp
open PySem PySem.W PyProof.Rows
set_option maxRecDepth 100000 in
set_option maxHeartbeats 0 in
theorem PySem.Challenge.cw_ringproofs_k16_definitions_by_names_holds : PySem.Challenge.rw_ringproofs_k16_definitions_by_names.Holds := by
  w_on; o_law; k_head; (case hw => w_witness2)
  k_fill
  refine Rp.walk (l := PySem.Challenge.rw_ringproofs_k16_definitions_by_names) rfl rfl (fun w h Y => PySem.W.km_in_of Y) ?hR ?hT ?F
  case hR => kernel_rfl
  case hT => intro w; kernel_rfl
  case F =>
    intro w mg fa c Pt h KX G hmg ht
    refine' Rp.all_mk KX G hmg ht ?a1 ?l1 ?c1 ?k1 ?a2 ?l2 ?c2 ?k2 ?a3 ?l3 ?c3 ?k3 ?a4 ?l4 ?c4 ?k4 ?a5 ?l5 ?c5 ?k5 ?a6 ?l6 ?c6 ?k6 ?a7 ?l7 ?c7 ?k7 ?a8 ?l8 ?c8 ?k8 ?a9 ?l9 ?c9 ?k9 ?a10 ?l10 ?c10 ?k10 ?a11 ?l11 ?c11 ?k11 ?a12 ?l12 ?c12 ?k12 ?a13 ?l13 ?c13 ?k13 ?a14 ?l14 ?c14 ?k14 ?a15 ?l15 ?c15 ?k15 ?a16 ?l16 ?c16 ?k16 ?a17 ?l17 ?c17 ?k17 ?a18 ?l18 ?c18 ?k18 ?a19 ?l19 ?c19 ?k19 ?a20 ?l20 ?c20 ?k20 ?a21 ?l21 ?c21 ?k21 ?a22 ?l22 ?c22 ?k22 ?a23 ?l23 ?c23 ?k23 ?a24 ?l24 ?c24 ?k24 ?a25 ?l25 ?c25 ?k25 ?a26 ?l26 ?c26 ?k26 ?a27 ?l27 ?c27 ?k27 ?a28 ?l28 ?c28 ?k28 ?a29 ?l29 ?c29 ?k29 ?a30 ?l30 ?c30 ?k30 ?a31 ?l31 ?c31 ?k31 ?a32 ?l32 ?c32 ?k32 ?a33 ?l33 ?c33 ?k33 ?a34 ?l34 ?c34 ?k34 ?a35 ?l35 ?c35 ?k35 ?a36 ?l36 ?c36 ?k36 ?a37 ?l37 ?c37 ?k37 ?a38 ?l38 ?c38 ?k38 ?z1 ?z2 ?z3 ?z4 ?z5 ?z6 ?z7 ?z8 ?z9 ?z10 ?z11 ?z12 ?z13 ?z14 ?z15 ?z16 ?xV ?xM ?xS ?xL ?x1 ?x2 ?x3 ?xLe ?xML ?xMB ?xnCE ?xnCC ?xnCN ?xnCD ?xaXi ?xlXi ?xcXi ?xkXi ?xaTl ?xiTl ?xlTl ?xcTl ?xkTl ?xaTw ?xiTw ?xlTw ?xcTw ?xkTw ?xaRu ?xiRu ?xlRu ?xcRu ?xkRu ?xaWo ?xiWo ?xlWo ?xcWo ?xkWo ?xaTe ?xiTe ?xlTe ?xcTe ?xkTe ?xaAl ?xiAl ?xlAl ?xcAl ?xkAl ?xaWi ?xiWi ?xlWi ?xcWi ?xkWi ?xaTn ?xiTn ?xlTn ?xcTn ?xkTn ?xaEq ?xiEq ?xlEq ?xcEq ?xkEq ?xaIn ?xiIn ?xlIn ?xcIn ?xkIn ?xT ?xQ ?xty ?xvV ?xpg ?xhd ?xpo ?xsa ?xmk ?xkc ?xnT ?xnM ?xKC ?xKN ?xE ?xI
    (case a1 => k_is); (case l1 => k_is); (case c1 => k_is); (case k1 => k_is)
    (case a2 => k_is); (case l2 => k_is); (case c2 => k_is); (case k2 => k_is)
    (case a3 => k_is); (case l3 => k_is); (case c3 => k_is); (case k3 => k_is)
    (case a4 => k_is); (case l4 => k_is); (case c4 => k_is); (case k4 => k_is)
    (case a5 => k_is); (case l5 => k_is); (case c5 => k_is); (case k5 => k_is)
    (case a6 => k_is); (case l6 => k_is); (case c6 => k_is); (case k6 => k_is)
    (case a7 => k_is); (case l7 => k_is); (case c7 => k_is); (case k7 => k_is)
    (case a8 => k_is); (case l8 => k_is); (case c8 => k_is); (case k8 => k_is)
    (case a9 => k_is); (case l9 => k_is); (case c9 => k_is); (case k9 => k_is)
    (case a10 => k_is); (case l10 => k_is); (case c10 => k_is); (case k10 => k_is)
    (case a11 => k_is); (case l11 => k_is); (case c11 => k_is); (case k11 => k_is)
    (case a12 => k_is); (case l12 => k_is); (case c12 => k_is); (case k12 => k_is)
    (case a13 => k_is); (case l13 => k_is); (case c13 => k_is); (case k13 => k_is)
    (case a14 => k_is); (case l14 => k_is); (case c14 => k_is); (case k14 => k_is)
    (case a15 => k_is); (case l15 => k_is); (case c15 => k_is); (case k15 => k_is)
    (case a16 => k_is); (case l16 => k_is); (case c16 => k_is); (case k16 => k_is)
    (case a17 => k_is); (case l17 => k_is); (case c17 => k_is); (case k17 => k_is)
    (case a18 => k_is); (case l18 => k_is); (case c18 => k_is); (case k18 => k_is)
    (case a19 => k_is); (case l19 => k_is); (case c19 => k_is); (case k19 => k_is)
    (case a20 => k_is); (case l20 => k_is); (case c20 => k_is); (case k20 => k_is)
    (case a21 => k_is); (case l21 => k_is); (case c21 => k_is); (case k21 => k_is)
    (case a22 => k_is); (case l22 => k_is); (case c22 => k_is); (case k22 => k_is)
    (case a23 => k_is); (case l23 => k_is); (case c23 => k_is); (case k23 => k_is)
    (case a24 => k_is); (case l24 => k_is); (case c24 => k_is); (case k24 => k_is)
    (case a25 => k_is); (case l25 => k_is); (case c25 => k_is); (case k25 => k_is)
    (case a26 => k_is); (case l26 => k_is); (case c26 => k_is); (case k26 => k_is)
    (case a27 => k_is); (case l27 => k_is); (case c27 => k_is); (case k27 => k_is)
    (case a28 => k_is); (case l28 => k_is); (case c28 => k_is); (case k28 => k_is)
    (case a29 => k_is); (case l29 => k_is); (case c29 => k_is); (case k29 => k_is)
    (case a30 => k_is); (case l30 => k_is); (case c30 => k_is); (case k30 => k_is)
    (case a31 => k_is); (case l31 => k_is); (case c31 => k_is); (case k31 => k_is)
    (case a32 => k_is); (case l32 => k_is); (case c32 => k_is); (case k32 => k_is)
    (case a33 => k_is); (case l33 => k_is); (case c33 => k_is); (case k33 => k_is)
    (case a34 => k_is); (case l34 => k_is); (case c34 => k_is); (case k34 => k_is)
    (case a35 => k_is); (case l35 => k_is); (case c35 => k_is); (case k35 => k_is)
    (case a36 => k_is); (case l36 => k_is); (case c36 => k_is); (case k36 => k_is)
    (case a37 => k_is); (case l37 => k_is); (case c37 => k_is); (case k37 => k_is)
    (case a38 => k_is); (case l38 => k_is); (case c38 => k_is); (case k38 => k_is)
    (case z1 => k_is); (case z2 => k_is); (case z3 => k_is); (case z4 => k_is)
    (case z5 => k_is); (case z6 => k_is); (case z7 => k_is); (case z8 => k_is)
    (case z9 => k_is); (case z10 => k_is); (case z11 => k_is); (case z12 => k_is)
    (case z13 => k_is); (case z14 => k_is); (case z15 => k_is); (case z16 => k_is)
    (case xV => k_is); (case xM => k_is); (case xS => k_is); (case xL => k_is)
    (case x1 => k_is); (case x2 => k_is); (case x3 => k_is); (case xLe => k_is)
    (case xML => k_is); (case xMB => k_is); (case xnCE => k_is); (case xnCC => k_is)
    (case xnCN => k_is); (case xnCD => k_is); (case xaXi => k_is); (case xlXi => k_is)
    (case xcXi => k_is); (case xkXi => k_is); (case xaTl => k_is); (case xiTl => k_is)
    (case xlTl => k_is); (case xcTl => k_is); (case xkTl => k_is); (case xaTw => k_is)
    (case xiTw => k_is); (case xlTw => k_is); (case xcTw => k_is); (case xkTw => k_is)
    (case xaRu => k_is); (case xiRu => k_is); (case xlRu => k_is); (case xcRu => k_is)
    (case xkRu => k_is); (case xaWo => k_is); (case xiWo => k_is); (case xlWo => k_is)
    (case xcWo => k_is); (case xkWo => k_is); (case xaTe => k_is); (case xiTe => k_is)
    (case xlTe => k_is); (case xcTe => k_is); (case xkTe => k_is); (case xaAl => k_is)
    (case xiAl => k_is); (case xlAl => k_is); (case xcAl => k_is); (case xkAl => k_is)
    (case xaWi => k_is); (case xiWi => k_is); (case xlWi => k_is); (case xcWi => k_is)
    (case xkWi => k_is); (case xaTn => k_is); (case xiTn => k_is); (case xlTn => k_is)
    (case xcTn => k_is); (case xkTn => k_is); (case xaEq => k_is); (case xiEq => k_is)
    (case xlEq => k_is); (case xcEq => k_is); (case xkEq => k_is); (case xaIn => k_is)
    (case xiIn => k_is); (case xlIn => k_is); (case xcIn => k_is); (case xkIn => k_is)
    (case xT => k_is); (case xQ => k_is); (case xty => k_is); (case xvV => k_is)
    (case xpg => k_is); (case xhd => k_is); (case xpo => k_is); (case xsa => k_is)
    (case xmk => k_is); (case xkc => k_is); (case xnT => k_is); (case xnM => k_is)
    (case xKC => kernel_rfl); (case xKN => kernel_rfl); (case xE => kernel_rfl); (case xI => kernel_rfl)

