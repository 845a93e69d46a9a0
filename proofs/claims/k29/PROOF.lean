import PyProof.Rows.All
import Wide.All
import OpenK.AllK
import Wide.FinOn
import HandS.ForMost
import HandS.GenList
import HandS.AnyAll
import PyProof.TupleOfGen
import HandS.EndOwn
import HandS.SetKeys
import HandS.More
import HandS.Conv
import HandS.IsInst
import HandS.Sort
import HandS.Wide
import KE.KNest
import HandS.Evl
import PySem.Challenge.RW_moatways_k29_scaled_tasks_with_fines
import HandS.Walk
import HandS.Deep
import HandS.Gcd
import KE.GoesEnum
import HandS.SortRule
import HandS.TupSets
import HandS.SortInts
import HandS.Small
import HandS.DictTup
import HandS.TupAny
import HandS.SetBool
import HandS.Zip
import HandS.TryOnly
import HandS.Rev
import HandS.Style
import HandS.HeadHook4
import HandS.HeadWalk
import HandS.CallRecv
set_option Elab.async false
set_option linter.all false
set_option maxRecDepth 100000
set_option maxHeartbeats 2000000
/-! Generator expressions over the hand layer, consumed at once: all, any, sum, tuple. -/
namespace GE
open PySem PySem.Spec PyProof.Rows L2 GenW

/-- what the consumer keeps at S when ys is out -/
abbrev CO := List V → Obj → Prop
structure Slp (C : CO) (S : Addr) (ys : List V) (s s' : Shared) : Prop where
  os : s'.os = s.os
  bare : AllBare s'.gens
  keep : ∀ b o, b ≠ S → s.heap.get? b = some o → s'.heap.get? b = some o
  own : ∃ o, s'.heap.get? S = some o ∧ C ys o
structure Mid (P : Program) (w : World) (outer : List Env) (ex : List Addr) (H : Hp) (s : Shared) (S a : Addr) (g : Nat) (C : CO) (ys : List V) (H' : Hp) (s' : Shared) : Prop where
  os : s'.os = s.os
  bare : AllBare s'.gens
  lim : s'.heap.NoLimit
  gen : s'.heap.IsGen a g
  un : Un (frs outer) ex H H' s.heap s'.heap
  hok : HOk P w H' s'.heap
  free : H' S = none
  own : ∃ o, s'.heap.get? S = some o ∧ C ys o
/-- what is wanted when an item is handed out; the last: that it may go on -/
abbrev YO := List V → V → Hp → Prop → Prop
abbrev EN := List V → Hp → Prop
def GYx (P : Program) (w : World) (outer : List Env) (ex : List Addr) (H : Hp) (s : Shared) (S a : Addr) (g : Nat) (C : CO) (Yo : YO) : Protocol := fun n s₀ v s' kap =>
  ∃ ys x H', n + 1 + ys.length = sizeLine ∧ RelV x v ∧ (∀ ob, s₀.heap.get? S = some ob → s'.heap.get? S = some ob) ∧ Mid P w outer ex H s S a g C ys H' s' ∧ Yo ys x H' (∀ s'', Slp C S (ys ++ [x]) s' s'' → kap (.send .none) s'')
def Fi (P : Program) (w : World) (outer : List Env) (ex : List Addr) (H : Hp) (s : Shared) (S a : Addr) (g : Nat) (C : CO) (En : EN) : Nat → Shared → Shared → Prop := fun n s₀ s' =>
  ∃ ys H', n + ys.length = sizeLine ∧ (∀ ob, s₀.heap.get? S = some ob → s'.heap.get? S = some ob) ∧ Mid P w outer ex H s S a g C ys H' s' ∧ En ys H'
def REx (P : Program) (w : World) (outer : List Env) (ex : List Addr) (H : Hp) (s : Shared) (S a : Addr) (g : Nat) (C : CO) (En : EN) : GenEnd := fun n s₀ r s1 =>
  ((r = .ok (.ret .none) ∨ r = .ok .next) ∧ Fi P w outer ex H s S a g C En n s₀ s1) ∨ ∃ e, r = .error e ∧ (fun (_ : Value) (_ : Shared) => False) e s1

/-- running: ys is out -/
def GIx (X : Cx) (S : Addr) (C : CO) (ip : List (Addr × Obj)) (ys : List V) (σ : L2.St) (H : Hp) (s : Shared) : Prop := ∃ o, C ys o ∧ Inv X ((S, o) :: ip) σ H s
theorem GIx.woken {X : Cx} {S : Addr} {C : CO} {ip : List (Addr × Obj)} {ys zs : List V} {σ : L2.St} {H : Hp} {s s' : Shared} (hC : ∀ ys o, C ys o → ∀ v, o.data ≠ .cell v) (hpn : ∀ p ∈ X.pn, p.1 ≠ S) (hip : ∀ p ∈ ip, p.1 ≠ S) (hA : Apart X S) (h : GIx X S C ip ys σ H s) (z : Slp C S zs s s') :
    GIx X S C ip zs σ H s' := by
  obtain ⟨o, hCo, I⟩ := h
  obtain ⟨eS, hS0, hSL, hSf, _⟩ := I.pin (S, o) (List.mem_append_right _ List.mem_cons_self)
  have I0 : Inv X ip σ H s := I.pins_of fun p hp => I.pin p (List.mem_append_right _ (List.mem_cons_of_mem _ hp))
  have nt : ∀ b u, H b = some u → b ≠ S := fun b u q hb => by rw [hb, hS0] at q; cases q
  obtain ⟨z1, z2, z3, o', eS', hCo'⟩ := z
  obtain ⟨hh, g, d, t, o9⟩ := s'
  have ho : o9 = s.os := z1
  subst ho
  have nc : ∀ b, b ∉ [S] → b ≠ S := fun b hb e => hb (by rw [e]; exact List.mem_singleton.mpr rfl)
  have J : Inv X ip σ H { s with heap := hh, gens := g, drawn := d, toks := t } := by
    refine I0.step (g' := g) (t' := t) (d' := d) (ch := [S]) (fun b hb => ?_)
      (fun b ob _ _ hc q _ => z3 b ob (nc b hc) q) (fun b ob _ _ hc q _ => ⟨ob.slots, z3 b ob (nc b hc) q⟩) (fun _ _ _ _ n => n) (fun b ob hc q => ⟨ob, z3 b ob (nc b hc) q⟩)
      (fun _ _ q => q) (fun _ _ _ q => q) (fun b ps q => ⟨#[], by rw [q]; simp⟩) (fun m hm => ?_) (fun b u q => ?_) z2
    · rw [List.mem_singleton.mp hb]
      refine ⟨.inr hA.1, hA.2.1, hA.2.2, fun p hp => ?_⟩
      rcases List.mem_append.mp hp with hp | hp
      · exact hpn p hp
      · exact hip p hp
    · obtain ⟨ob, es, ep, ho, r⟩ := hm
      exact ⟨ob, es, ep, z3 _ ob (Ne.symm hSL) ho, r⟩
    · refine (I0.hok b u q).stay (fun c v hc y => z3 c v ?_ y) (fun _ y => y) fun _ _ y => y
      rcases hc with y | y
      · rw [y]; exact nt b u q
      · exact nt c _ y
  refine ⟨o', hCo', J.pins_of fun p hp => ?_⟩
  rcases List.mem_cons.mp hp with hp | hp
  · rw [hp]
    exact ⟨eS', hS0, hSL, hSf, hC _ _ hCo'⟩
  · exact J.pin p (List.mem_append_right _ hp)

/-- the context of a generator expression's frame -/
abbrev gcx (X : Cx) (A : Around) (s : Shared) (H : Hp) (cenv : Env) (fp : List Addr) (gp : List (Addr × Obj)) : Cx :=
  { X with A := A.deeper cenv, s_0 := s, H_0 := H, env := cenv, outer := X.stack, stack := cenv :: X.stack, ex := fp, fn := fun _ => false, calm := true, pn := gp, xe := fun _ _ => False }

theorem mid_of {X : Cx} {A : Around} {s s' : Shared} {H H' : Hp} {cenv : Env} {fp : List Addr} {gp ip : List (Addr × Obj)} {S a : Addr} {g : Nat} {C : CO} {ys : List V} {σ : L2.St}
    (hgen : ∀ (s' : Shared) (ys : List V) (o : Obj), s'.heap.get? S = some o → C ys o → (∀ p ∈ gp, s'.heap.get? p.1 = some p.2) → s'.heap.IsGen a g)
    (h : GIx (gcx X A s H cenv fp gp) S C ip ys σ H' s') : Mid X.prog X.w X.stack fp H s S a g C ys H' s' := by
  obtain ⟨o, hCo, I⟩ := h
  obtain ⟨eS, hS0, _⟩ := I.pin (S, o) (List.mem_append_right _ List.mem_cons_self)
  exact ⟨I.os, I.bare, I.nolimit, hgen s' ys o eS hCo fun p hp => (I.pin p (List.mem_append_left _ hp)).1, I.base, I.hok, hS0, o, eS, hCo⟩

theorem over_comp {A : Around} {elt : Expr} {gs : List Comprehension} {scope : Scope} {pos : Pos} {u v : Value} {env : Env} : A.over (.compLoop (.GeneratorExp elt gs scope pos) 0 u v env) [] = A.deeper env := by
  first
    | rfl
    | (obtain ⟨hd, d, fr, gs, u⟩ := A; simp [Around.over, Around.deeper, marksOver, frameCount, unitsOf, envsOf, guardsOf, pushEnvs, pushGuards, Code.envs, Code.env?, Code.isFrame, Code.guards, Code.isGuard, Code.weight, Code.frames, Code.isCreation, Code.isCaller, Code.cUnits])
theorem over_compS {A : Around} {elt : Expr} {gs : List Comprehension} {scope : Scope} {pos : Pos} {u v : Value} {env : Env} : A.over (.compStart (.GeneratorExp elt gs scope pos) 0 u v env) [] = A.deeper env := by
  first
    | rfl
    | (obtain ⟨hd, d, fr, gs, u⟩ := A; simp [Around.over, Around.deeper, marksOver, frameCount, unitsOf, envsOf, guardsOf, pushEnvs, pushGuards, Code.envs, Code.env?, Code.isFrame, Code.guards, Code.isGuard, Code.weight, Code.frames, Code.isCreation, Code.isCaller, Code.cUnits])

/-- a turn of the loop -/
def turnX (g : TG) (tt : TT) (te : TE) (vs : List Nat) (σ : L2.St) (Yo : YO) (En : EN) (J : It) (W : Nat → Nat → List V → Hp → Prop) : Prop := ∀ i m ys H, W i m ys H →
  (J.stop i H ∧ En ys H) ∨ (J.go i H ∧ ∀ x H', J.yld i H x H' → g x (wipe σ vs) H' fun σ2 H2 => wipe σ2 vs = wipe σ vs ∧ tt σ2 H2 fun b H3 =>
    if b = true then te σ2 H3 fun y H4 => ys.length < sizeLine ∧ Yo ys y H4 (∃ m', m' < m ∧ W (i + 1) m' (ys ++ [y]) H4) else ∃ m', m' < m ∧ W (i + 1) m' ys H3)

section
variable {X : Cx} {A : Around} {s : Shared} {H : Hp} {cenv : Env} {fp : List Addr} {gp : List (Addr × Obj)} {S a : Addr} {g0 : Nat} {C : CO} {Yo : YO} {En : EN}
  {elt tg iter : Expr} {ifs : List Expr} {scope : Scope} {pos : Pos} {it : Addr} {vs : List Nat} {σ : L2.St} {g : TG} {tt : TT} {te : TE} {J : It} {tn : Nat → Heap → Prop} {W : Nat → Nat → List V → Hp → Prop}
theorem seg_loop (hC : ∀ ys o, C ys o → ∀ v, o.data ≠ .cell v) (hY : ∀ ys y H K K', (K → K') → Yo ys y H K → Yo ys y H K')
    (hgen : ∀ (s' : Shared) (ys : List V) (o : Obj), s'.heap.get? S = some o → C ys o → (∀ p ∈ gp, s'.heap.get? p.1 = some p.2) → s'.heap.IsGen a g0)
    (hpn : ∀ p ∈ gp, p.1 ≠ S ∧ p.1 ∉ fp) (hSf : S ∉ fp) (hA : Apart (gcx X A s H cenv fp gp) S) (hco : cenv.scope.isCoroutine = false)
    (T : Turn X.prog X.w X.K tg J fp it tn) (pg : PG (gcx X A s H cenv fp gp) tg g) (pt : PTs (gcx X A s H cenv fp gp) ifs tt) (pe : PE (gcx X A s H cenv fp gp) elt te) (turn : turnX g tt te vs σ Yo En J W) :
    ∀ (m n i : Nat) (ys : List V) (H' : Hp) (s₀ s' : Shared), n + ys.length = sizeLine → W i m ys H' → GIx (gcx X A s H cenv fp gp) S C [] ys (wipe σ vs) H' s' → tn i s'.heap → (∀ b ∈ fp, H' b = none) → (∀ ob, s₀.heap.get? S = some ob → s'.heap.get? S = some ob) →
      Seg (model X.prog X.w) A (REx X.prog X.w X.stack fp H s S a g0 C En) (GYx X.prog X.w X.stack fp H s S a g0 C Yo) n s₀
        (.compLoop (.GeneratorExp elt [⟨tg, iter, ifs, 0⟩] scope pos) 0 (.ref it) .none cenv) ((model X.prog X.w).den (.compLoop (.GeneratorExp elt [⟨tg, iter, ifs, 0⟩] scope pos) 0 (.ref it) .none cenv)) [] s' := by
  have stat : ∀ {σ' : L2.St} {H' : Hp} {s' : Shared} {pins : List (Addr × Obj)}, Inv (gcx X A s H cenv fp gp) pins σ' H' s' → (∀ p ∈ pins, p.1 ∉ fp) → (∀ b ∈ fp, H' b = none) → ∀ b ∈ fp, FpOk (gcx X A s H cenv fp gp) pins H' b := fun {σ' H' s' pins} I' hp0 hn b hb =>
    ⟨hn b hb, (I'.ok.exf b hb).1, I'.ok.exfs b hb, .inl hb, fun x c e => (I'.ok.exf b hb).2 x c e, fun p hp z => (List.mem_append.mp hp).elim (fun q => (hpn p q).2 (z ▸ hb)) fun q => hp0 p q (z ▸ hb)⟩
  intro m
  induction m using Nat.strongRecOn with
  | ind m ih =>
    intro n i ys H' s₀ s' hn w hG st nf h0
    obtain ⟨o, hCo, I⟩ := _root_.id hG
    have h0' : ∀ ob, s₀.heap.get? S = some ob → ob = o := fun ob e => by
      have e1 := h0 ob e
      rw [(I.pin (S, o) (List.mem_append_right _ List.mem_cons_self)).1] at e1
      exact (Option.some.inj e1).symm
    have hp1 : ∀ p ∈ [(S, o)], p.1 ∉ fp := fun p hp => by rw [List.mem_singleton.mp hp]; exact hSf
    show Seg _ A _ _ n s₀ _ ((compTurn (.GeneratorExp elt [⟨tg, iter, ifs, 0⟩] scope pos) 0 (.ref it) .none cenv).onRaise (leaving cenv)) [] s'
    rw [compTurn_gen, Sem.onRaise_eq_wrap]
    refine seg_bind_wrap (wpAny_standAt ?_)
    rcases turn i m ys H' w with ⟨stop, hend⟩ | ⟨go, step⟩
    · refine seg_bind_wrap ?_
      rw [over_comp]
      refine thnF (T.done (gcx X A s H cenv fp gp) rfl rfl rfl rfl i [(S, o)] s' _ H' (fun _ _ => False) I (stat I hp1 nf) st stop) fun r s1 ⟨hr, I1⟩ => ?_
      subst hr
      exact seg_end (.ok .next) (.inl ⟨.inr rfl, ys, H', hn, fun ob e => by rw [h0' ob e]; exact (I1.pin (S, o) (List.mem_append_right _ List.mem_cons_self)).1, mid_of hgen ⟨o, hCo, I1⟩, hend⟩)
    · refine seg_bind_wrap ?_
      rw [over_comp]
      refine thnF (T.item (gcx X A s H cenv fp gp) rfl rfl rfl rfl i [(S, o)] s' _ H' (fun _ _ => False) I (stat I hp1 nf) st go) fun r s1 ⟨u, hr, h1⟩ => ?_
      subst hr
      refine seg_bind_wrap ?_
      rw [over_comp]
      refine thnF h1 fun _ s2 ⟨x, H2, I2, r2, y2, st2, n2⟩ => ?_
      have I2' := I2.pinned (stat I2 hp1 n2) (T.obj _ _ st2)
      refine seg_bind_wrap ?_
      rw [over_comp]
      refine thnF (pg.run _ s2 _ H2 x u _ I2' r2 (step x H2 y2)) fun _ s3 ⟨σ3, H3, I3, hw3, q3⟩ => ?_
      refine seg_bind_wrap ?_
      rw [over_comp]
      refine thnF (pt.run _ s3 σ3 H3 _ I3 q3) fun b s4 ⟨H4, I4, q4⟩ => ?_
      have hl : (wipe σ vs).length = σ3.length := by rw [← hw3, wipe_length]
      have fin : ∀ {n' : Nat} {s9 s₀' : Shared} {H9 : Hp} {zs : List V} {m' : Nat}, n' + zs.length = sizeLine → GIx (gcx X A s H cenv fp gp) S C (pinsAt fp s2.heap) zs σ3 H9 s9 → m' < m → W (i + 1) m' zs H9 → (∀ ob, s₀'.heap.get? S = some ob → s9.heap.get? S = some ob) →
          Seg (model X.prog X.w) A (REx X.prog X.w X.stack fp H s S a g0 C En) (GYx X.prog X.w X.stack fp H s S a g0 C Yo) n' s₀'
            (.compLoop (.GeneratorExp elt [⟨tg, iter, ifs, 0⟩] scope pos) 0 (.ref it) .none cenv) ((model X.prog X.w).den (.compLoop (.GeneratorExp elt [⟨tg, iter, ifs, 0⟩] scope pos) 0 (.ref it) .none cenv)) [] s9 := fun {n' s9 s₀' H9 zs m'} hn' hG9 hm' w9 h9 => by
        obtain ⟨o9, hCo9, I9⟩ := hG9
        have pin9 : ∀ b ∈ fp, ∀ ob, s2.heap.get? b = some ob → s9.heap.get? b = some ob ∧ H9 b = none := fun b hb ob e =>
          let z := I9.pin (b, ob) (List.mem_append_right _ (List.mem_cons_of_mem _ (mem_pinsAt hb e)))
          ⟨z.1, z.2.1⟩
        refine ih m' hm' n' (i + 1) zs H9 s₀' s9 hn' w9 ⟨o9, hCo9, ?_⟩ (T.keep _ _ _ st2 fun b hb ob e => (pin9 b hb ob e).1) (fun b hb => ?_) h9
        · refine Inv.weak (I9.pins_of fun p hp => I9.pin p (List.mem_append_right _ ?_)) hl fun j v e => ?_
          · rw [List.mem_singleton.mp hp]; exact List.mem_cons_self
          · rw [← hw3] at e
            exact (wipe_some e).1
        · obtain ⟨ob, e, _⟩ := T.obj _ _ st2 b hb
          exact (pin9 b hb ob e).2
      cases b with
      | false =>
        simp only [Bool.false_eq_true, if_false] at q4 ⊢
        obtain ⟨m', hm', w4⟩ := q4
        exact seg_again rfl (fin hn ⟨o, hCo, I4⟩ hm' w4 fun ob e => by rw [h0' ob e]; exact (I4.pin (S, o) (List.mem_append_right _ List.mem_cons_self)).1)
      | true =>
        simp only [if_true] at q4 ⊢
        have hy : ∀ v, yieldOut cenv v = yieldValue v := fun v => by simp only [yieldOut, hco, Bool.false_eq_true, if_false]
        simp only [hy]
        rw [Sem.bind_eq_wrap', Sem.bind_eq_wrap', Sem.wrap_wrap, Sem.wrap_wrap]
        refine seg_wrap ?_
        rw [over_comp]
        refine thnF (pe.run _ s4 σ3 H4 _ I4 q4) fun u5 s5 ⟨y, H5, I5, r5, hlt, q5⟩ => ?_
        obtain ⟨n, rfl⟩ : ∃ k, n = k + 1 := ⟨n - 1, by omega⟩
        have G5 : GIx (gcx X A s H cenv fp gp) S C (pinsAt fp s2.heap) ys σ3 H5 s5 := ⟨o, hCo, I5⟩
        refine seg_at (seg_yield rfl rfl rfl ⟨ys, y, H5, hn, r5, fun ob e => by rw [h0' ob e]; exact (I5.pin (S, o) (List.mem_append_right _ List.mem_cons_self)).1, mid_of hgen G5, hY _ _ _ _ _ (fun ⟨m', hm', w5⟩ s6 z => ?_) q5⟩)
        refine seg_again rfl (fin ?_ (G5.woken hC (fun p hp => (hpn p hp).1) (fun p hp z => hSf (z ▸ (of_pinsAt hp).1)) hA z) hm' w5 fun _ e => e)
        rw [List.length_append, List.length_singleton]; omega
end
end GE

set_option Elab.async false
set_option linter.all false
set_option maxRecDepth 100000
set_option maxHeartbeats 2000000
namespace GE
open PySem PySem.Spec PyProof.Rows L2 GenW
section
variable {X : Cx} {A : Around} {s : Shared} {H : Hp} {cenv : Env} {fp : List Addr} {gp : List (Addr × Obj)} {S a : Addr} {g0 : Nat} {C : CO} {Yo : YO} {En : EN}
  {elt tg iter : Expr} {ifs : List Expr} {scope : Scope} {pos : Pos} {it : Addr} {vs : List Nat} {σ : L2.St} {g : TG} {tt : TT} {te : TE} {J : It} {tn : Nat → Heap → Prop} {W : Nat → Nat → List V → Hp → Prop}
theorem seg_start {m : Nat} {H' : Hp} {s₀ s' : Shared} (hC : ∀ ys o, C ys o → ∀ v, o.data ≠ .cell v) (hY : ∀ ys y H K K', (K → K') → Yo ys y H K → Yo ys y H K')
    (hgen : ∀ (s' : Shared) (ys : List V) (o : Obj), s'.heap.get? S = some o → C ys o → (∀ p ∈ gp, s'.heap.get? p.1 = some p.2) → s'.heap.IsGen a g0)
    (hpn : ∀ p ∈ gp, p.1 ≠ S ∧ p.1 ∉ fp) (hSf : S ∉ fp) (hA : Apart (gcx X A s H cenv fp gp) S) (hco : cenv.scope.isCoroutine = false)
    (T : Turn X.prog X.w X.K tg J fp it tn) (pg : PG (gcx X A s H cenv fp gp) tg g) (pt : PTs (gcx X A s H cenv fp gp) ifs tt) (pe : PE (gcx X A s H cenv fp gp) elt te) (turn : turnX g tt te vs σ Yo En J W)
    (w : W 0 m [] H') (hG : GIx (gcx X A s H cenv fp gp) S C [] [] (wipe σ vs) H' s') (st : tn 0 s'.heap) (nf : ∀ b ∈ fp, H' b = none) (h0 : ∀ ob, s₀.heap.get? S = some ob → s'.heap.get? S = some ob) :
    Seg (model X.prog X.w) A (REx X.prog X.w X.stack fp H s S a g0 C En) (GYx X.prog X.w X.stack fp H s S a g0 C Yo) sizeLine s₀
        (.compStart (.GeneratorExp elt [⟨tg, iter, ifs, 0⟩] scope pos) 0 (.ref it) .none cenv) ((model X.prog X.w).den (.compStart (.GeneratorExp elt [⟨tg, iter, ifs, 0⟩] scope pos) 0 (.ref it) .none cenv)) [] s' := by
  have loop := seg_loop (pos := pos) (iter := iter) (scope := scope) hC hY hgen hpn hSf hA hco T pg pt pe turn m sizeLine 0 [] H' s₀ s' (Nat.add_zero _) w hG st nf h0
  show Seg _ A _ _ _ s₀ _ ((compStart (.GeneratorExp elt [⟨tg, iter, ifs, 0⟩] scope pos) 0 (.ref it) .none cenv).onRaise (leaving cenv)) [] s'
  unfold compStart
  rw [Sem.onRaise_eq_wrap]
  show Seg _ A _ _ _ s₀ _ ((ask >>= _).wrap _ _ _ _) [] s'
  refine seg_bind_wrap (wpAny_askSetting ?_)
  split
  · exact seg_again rfl loop
  · first
      | exact seg_bind_wrap (wpAny_rule (seg_bind_wrap (wpAny_standAt (seg_bind_wrap (T.self _ 0 s' _ _ st (seg_again rfl loop))))))
      | (refine seg_bind_wrap (wpAny_rule ?_); show Seg _ A _ _ _ s₀ _ ((standAt iter.pos >>= _).wrap _ _ _ _) [] s'; exact seg_bind_wrap (wpAny_standAt (seg_bind_wrap (T.self _ 0 s' _ _ st (seg_again rfl loop)))))

/-- the frame's start, in any later state that keeps what stood -/
theorem gen_start {pins pl : List (Addr × Obj)} {own : List (Str × Nat)} {code : Value} {m : Str → Option Value} {s2 : Shared} (I : Inv X pins σ H s) (ok : BlkOk X.N X.env.scope scope own) (hN : X.N.Nodup) (hnc : ∀ y ∈ scope.names, y.2 ≠ .cell)
    (hfp : ∀ b ∈ fp, FpOk X pins H b ∧ b < s.heap.objs.size) (hd : A.handled = none) (hfr : A.frames = some X.stack)
    (hce : cenv = genEnv scope (cloFrom X.env.cells scope.names []) s.heap.objs.size code builtinsNs X.env)
    (kp : ∀ b o, s.heap.get? b = some o → s2.heap.get? b = some o) (hns : s2.heap.Ns s.heap.objs.size m) (hos : s2.os = s.os) (hba : AllBare s2.gens)
    (hpl : ∀ p ∈ gp ++ pl, s2.heap.get? p.1 = some p.2 ∧ s.heap.objs.size < p.1 ∧ ∀ v, p.2.data ≠ .cell v) :
    Inv (gcx X A s H cenv fp gp) pl (wipe σ (own.map (·.2))) H s2 := by
  have hfree : ∀ y ∈ scope.names, y.2 = .free → ∃ c, X.env.cells.lookup y.1 = some c := fun y hy e => by
    rcases ok.free y hy e with k | k
    · exact I.ok.has _ (.inl k)
    · exact I.ok.has _ (.inr k)
  have hL : cenv.locals = s.heap.objs.size := by rw [hce]; rfl
  have hcl : cenv.cells = cloFrom X.env.cells scope.names [] := by rw [hce]; rfl
  have hsc : cenv.scope = scope := by rw [hce]; rfl
  have cm : ∀ {y c}, (y, c) ∈ cloFrom X.env.cells scope.names [] → X.env.cells.lookup y = some c ∧ c < s.heap.objs.size := fun {y c} hm => by
    rcases cloFrom_mem hm with hm | ⟨h1, rfl⟩
    · cases hm
    · obtain ⟨c, hc⟩ := hfree _ h1 rfl
      rw [hc]
      obtain ⟨w, z⟩ := I.cell _ _ hc
      exact ⟨rfl, z.lt⟩
  have mem : ∀ {y c}, cenv.cells.lookup y = some c → X.env.cells.lookup y = some c ∧ c < s.heap.objs.size := fun {y c} e => by
    rw [hcl] at e
    exact cm (PySem.mem_of_lookup e)
  have look : ∀ {y}, scope.names.lookup y = some .free → ∃ c, cenv.cells.lookup y = some c ∧ X.env.cells.lookup y = some c := fun {y} hl => by
    have hy : (y, NameKind.free) ∈ scope.names := PySem.mem_of_lookup hl
    obtain ⟨c', e'⟩ := mem_lookup (cloFrom_has (cells := X.env.cells) (acc := []) hy)
    rw [← hcl] at e'
    exact ⟨c', e', (mem e').1⟩
  have stkLt : ∀ b ∈ frs X.stack, b < s.heap.objs.size := fun b hb => by
    obtain ⟨_, o, ho, _⟩ := I.stack.mem hb
    exact Heap.lt_size ho
  have okB : (gcx X A s H cenv fp gp).Ok := by
    refine ⟨I.ok.mod, by show cenv.scope.kind = _; rw [hsc]; exact ok.kind, by show cenv.globals = _; rw [hce]; exact I.ok.glob, by show cenv.builtins = _; rw [hce]; rfl, by show s.heap.objs.size ≤ cenv.locals; rw [hL]; exact Nat.le_refl _,
      fun y z c e1 e2 => ?_, fun y hy => ?_, fun y c z e => ?_, fun _ => hd, ?_, .inr ⟨rfl, ?_⟩, fun b hb => ⟨?_, fun y c e z => ?_⟩, I.bs, Nat.le_trans I.ok.bsz I.sz, fun b o e hb => ?_, fun b hb z => ?_, I.stack, I.stkFree⟩
    · exact I.ok.inj y z c (mem e1).1 (mem e2).1
    · have key : ∀ k, scope.names.lookup y = some k → (k = .cell ∨ k = .free) → ∃ c, cenv.cells.lookup y = some c := fun k hk hk' => by
        rcases hk' with rfl | rfl
        · exact absurd rfl (hnc _ (PySem.mem_of_lookup hk))
        · obtain ⟨c, h1, _⟩ := look hk
          exact ⟨c, h1⟩
      have hy' : cenv.scope.names.lookup y = some .cell ∨ cenv.scope.names.lookup y = some .free := hy
      rw [hsc] at hy'
      rcases hy' with hy' | hy'
      · exact key _ hy' (.inl rfl)
      · exact key _ hy' (.inr rfl)
    · cases z
    · show (A.deeper cenv).frames = some (cenv :: X.stack)
      have e : (A.deeper cenv).frames = A.frames.map (cenv :: ·) := by first | rfl | (obtain ⟨a1, a2, a3, a4, a5⟩ := A; cases a3 <;> rfl)
      rw [e, hfr]; rfl
    · show cenv.frame = some cenv.locals
      rw [hce]; rfl
    · show b ≠ cenv.locals
      rw [hL]; exact Nat.ne_of_lt (hfp b hb).2
    · exact (hfp b hb).1.2.2.2.2.1 y c (mem e).1 z
    · rcases (hfp b hb).1.2.2.2.1 with z | z
      · exact I.ok.noex b o e z
      · exact absurd (Nat.lt_of_lt_of_le (Heap.lt_size e) (Nat.le_trans I.ok.bsz z)) (Nat.lt_irrefl _)
    · rcases List.mem_cons.mp (I.stkSub b z) with z | z
      · exact (hfp b hb).1.2.1 z
      · exact (hfp b hb).1.2.2.1 z
  refine ⟨okB, hos, hba, Un.kept kp, ⟨m, by show s2.heap.Ns cenv.locals m; rw [hL]; exact hns, fun i y av e1 e2 e3 => ?_⟩, fun y c e => ?_, ?_, fun y c e => ?_, fun p hp => ?_, I.hok.kept kp, by rw [wipe_length]; exact I.len⟩
  · obtain ⟨e2, hne⟩ := wipe_some e2
    have hfr : scope.names.lookup y = some .free := by
      have e3 : Vis cenv.scope y := e3
      rw [hsc] at e3
      have no : ∀ k, scope.names.lookup y = some k → ¬ (k = .local ∨ k = .cell) := fun k hk hh => by
        rcases ok.own _ (PySem.mem_of_lookup hk) hh with e' | e'
        · obtain ⟨p, hp, hpy⟩ := List.mem_map.mp e'
          have e3 := ok.ix p hp
          have : p.1 = y := hpy
          rw [this] at e3
          exact hne (List.mem_map.mpr ⟨p, hp, nodup_ix hN e3 e1⟩)
        · exact e' (List.mem_of_getElem? e1)
      rcases e3 with e3 | e3 | e3
      · exact absurd (.inl rfl) (no _ e3)
      · exact absurd (.inr rfl) (no _ e3)
      · exact e3
    obtain ⟨m', hn, hl⟩ := I.loc
    have hvis : Vis X.env.scope y := (ok.free _ (PySem.mem_of_lookup hfr) rfl).elim (fun k => .inr (.inl k)) (fun k => .inr (.inr k))
    obtain ⟨w, r, q⟩ := hl i y av e1 e2 hvis
    have hkf : cenv.kindOf y = some .free := by show cenv.scope.names.lookup y = _; rw [hsc]; exact hfr
    refine ⟨w, r, .inr ⟨.inr hkf, ?_⟩⟩
    obtain ⟨c, h1, h2⟩ := look hfr
    rcases q with ⟨k, _⟩ | ⟨_, c', e', z⟩
    · have k : X.env.scope.names.lookup y = some .local := k
      rcases ok.free _ (PySem.mem_of_lookup hfr) rfl with k' | k' <;> rw [show X.env.scope.names.lookup y = _ from k'] at k <;> cases k
    · rw [h2] at e'; cases e'
      exact ⟨c, h1, z.keeps kp⟩
  · obtain ⟨w, z⟩ := I.cell y c (mem e).1
    exact ⟨w, z.keeps kp⟩
  · show H cenv.locals = none
    rw [hL]; exact I.hok.fresh (Nat.le_refl _)
  · exact I.freeC y c (mem e).1
  · obtain ⟨h1, h2, h3⟩ := hpl p hp
    refine ⟨h1, I.hok.fresh (Nat.le_of_lt h2), by show p.1 ≠ cenv.locals; rw [hL]; exact Nat.ne_of_gt h2, fun z => ?_, h3⟩
    exact absurd (Nat.lt_trans h2 (stkLt _ z)) (Nat.lt_irrefl _)
end
end GE

set_option Elab.async false
set_option linter.all false
set_option maxRecDepth 100000
set_option maxHeartbeats 2000000
namespace GE
open PySem PySem.Spec PyProof.Rows L2 GenW
/-- the reading of a generator expression that is consumed at once: Yo at each item, En at the end; P: the def's table of code objects -/
def tGx (wi : TI) (g : TG) (tt : TT) (te : TE) (vs : List Nat) (P : Addr) (Yo : YO) (En : EN) : L2.St → Hp → Prop := fun σ H => wi σ H fun J H1 => GxR.TabG H1 P ∧ ∀ H2, GxR.Tabbed P H1 H2 →
  ∃ W : Nat → Nat → List V → Hp → Prop, (∃ m, W 0 m [] H2) ∧ turnX g tt te vs σ Yo En J W
/-- a generator that has not begun -/
def MadeX (X : Cx) (k : Nat) (H : Hp) (sc : Shared) (fp : List Addr) (Yo : YO) (En : EN) (u : Value) (s5 : Shared) : Prop :=
  ∃ (a : Addr) (g : Nat) (c : Code), u = .ref a ∧ sc.heap.objs.size < a ∧ a < s5.heap.objs.size ∧ s5.heap.IsGen a g ∧ s5.gens[g]? = some (.fresh c) ∧ (∃ go, s5.heap.get? a = some go ∧ (∀ h : Heap, h.get? a = some go → h.IsGen a g) ∧ ∀ v, go.data ≠ .cell v) ∧
    s5.os = sc.os ∧ AllBare s5.gens ∧ s5.heap.NoLimit ∧ (∀ b o, sc.heap.get? b = some o → s5.heap.get? b = some o) ∧
    ∀ (A : Around) (S : Addr) (C : CO) (gp : List (Addr × Obj)) (s2 : Shared), Room (k + 1) A → A.frames = some X.stack → (∀ ys o, C ys o → ∀ v, o.data ≠ .cell v) →
      (∀ (s' : Shared) (ys : List V) (o : Obj), s'.heap.get? S = some o → C ys o → (∀ p ∈ gp, s'.heap.get? p.1 = some p.2) → s'.heap.IsGen a g) →
      (∀ p ∈ gp, p.1 ≠ S ∧ sc.heap.objs.size < p.1 ∧ s2.heap.get? p.1 = some p.2 ∧ ∀ v, p.2.data ≠ .cell v) → sc.heap.objs.size < S → (∀ b o, s5.heap.get? b = some o → s2.heap.get? b = some o) →
      (∃ o, s2.heap.get? S = some o ∧ C [] o) → s2.os = sc.os → AllBare s2.gens →
      Seg (model X.prog X.w) A (REx X.prog X.w X.stack fp H sc S a g C En) (GYx X.prog X.w X.stack fp H sc S a g C Yo) sizeLine s2 c ((model X.prog X.w).den c) [] s2

section
variable {X : Cx} {pins : List (Addr × Obj)} {σ : L2.St} {H : Hp} {s : Shared}
theorem gen_make {c P : Addr} {elt iter tg : Expr} {ifs : List Expr} {gpos : Pos} {scope : Scope} {own : List (Str × Nat)} {wi : TI} {g : TG} {tt : TT} {te : TE} {k : Nat} {Yo : YO} {En : EN} {Q' : Value → Shared → Prop}
    (hr : Room (k + 2) X.A) (hN : X.N.Nodup) (TB : GxR.TabB X.base X.mg c P) (hcode : X.env.code = .ref c) (hi : PI X tg iter wi) (ok : BlkOk X.N X.env.scope scope own) (hnc : ∀ y ∈ scope.names, y.2 ≠ .cell) (hco : scope.isCoroutine = false)
    (h0 : scope.names.lookup (".0" : Str) = some NameKind.local)
    (hg : ∀ (A : Around) (s : Shared) (H : Hp) (C : Addr) (cl : List (Str × Addr)) (code : Value) (fp : List Addr) (gp : List (Addr × Obj)), PG (gcx X A s H (genEnv scope cl C code builtinsNs X.env) fp gp) tg g)
    (ht : ∀ (A : Around) (s : Shared) (H : Hp) (C : Addr) (cl : List (Str × Addr)) (code : Value) (fp : List Addr) (gp : List (Addr × Obj)), Room k (A.deeper (genEnv scope cl C code builtinsNs X.env)) → PTs (gcx X A s H (genEnv scope cl C code builtinsNs X.env) fp gp) ifs tt)
    (he : ∀ (A : Around) (s : Shared) (H : Hp) (C : Addr) (cl : List (Str × Addr)) (code : Value) (fp : List Addr) (gp : List (Addr × Obj)), Room k (A.deeper (genEnv scope cl C code builtinsNs X.env)) → PE (gcx X A s H (genEnv scope cl C code builtinsNs X.env) fp gp) elt te)
    (hY : ∀ ys y H K K', (K → K') → Yo ys y H K → Yo ys y H K')
    (hs : ∀ v, genFold iter X.env v = pure v) (I : Inv X pins σ H s) (h : tGx wi g tt te (own.map (·.2)) P Yo En σ H)
    (hQ : ∀ H2 sc fp u s5, Inv X pins σ H2 sc → ExOk X pins fp → MadeX X k H2 sc fp Yo En u s5 → Q' u s5) :
    wpAny (model X.prog X.w) X.A (eval (.GeneratorExp elt [⟨tg, iter, ifs, 0⟩] scope gpos) X.env) Q' X.xe s := by
  have hfree : ∀ y ∈ scope.names, y.2 = .free → ∃ c, X.env.cells.lookup y.1 = some c := fun y hy e => by
    rcases ok.free y hy e with k | k
    · exact I.ok.has _ (.inl k)
    · exact I.ok.has _ (.inr k)
  refine wpAny_GeneratorExp_make hco (closure_ok hfree) hnc h0 ok.kind (by have := hr.dp; omega) (thn (hi.run pins s σ H _ I h) fun xv s1 hx => thn hx fun itv s2 h2 => ?_) hs
  obtain ⟨it, fp, tn, J, H2, e, I2, T, st2, f2, ⟨ps, hP, htr⟩, q⟩ := h2
  subst e
  have hPs : s2.heap.get? P = some { cls := .none, data := .fields ps } := I2.hok P _ hP
  have cd : PySem.W.CodeHd s2.heap c P := TB.code.keeps fun b u e => I2.bk b u e
  refine ⟨I2.nolimit, ?_⟩
  have fpne : ∀ b ∈ fp, b ≠ P := fun b hb z => by
    have := (f2 b hb).1
    rw [z, hP] at this
    cases this
  have cont : ∀ (code : Value) (h3 : Heap) (tk : Nat) (ps' : Array Value), Heap.ExtBut P s2.heap h3 → h3.get? P = some { cls := .none, data := .fields ps' } → (∃ more, ps' = ps ++ more) → TriplesOk ps'.toList →
      wpAny (model X.prog X.w) X.A (builtinsFor X.env.globals X.env.builtins) (fun bi s₄ =>
        ∀ h', h'.Ns s₄.heap.objs.size (fun y => if y = ".0" then some (.ref it) else none) → Heap.SameBut s₄.heap.objs.size (s₄.heap.push { cls := .type "frame", data := .dict #[] }) h' →
          Q' (.ref h'.objs.size) { s₄ with
            gens := s₄.gens.push (.fresh (.compStart (.GeneratorExp elt [⟨tg, iter, ifs, 0⟩] scope gpos) 0 (.ref it) .none (genEnv scope (cloFrom X.env.cells scope.names []) s₄.heap.objs.size code bi X.env))),
            toks := s₄.toks + 1 + 1 + 1,
            heap := h'.push { cls := .type "generator", data := .fields #[.int s₄.gens.size 0, .str "<genexpr>" (s₄.toks + 1), .str (X.env.qual ++ "<genexpr>") (s₄.toks + 1 + 1)] } }) X.xe { s2 with heap := h3, toks := tk } := by
    intro code h3 tk ps' hx hP3 hmore ht3
    obtain ⟨more, em⟩ := hmore
    have I3 : Inv X pins σ (upd H2 P (.tbl (ps ++ more))) { s2 with heap := h3, gens := s2.gens, drawn := s2.drawn, toks := tk } :=
      GxR.inv_tab I2 hP (fun b u hb e => hx b u hb e) (by rw [← em]; exact hP3) I2.bare
    generalize hsc : ({ s2 with heap := h3, gens := s2.gens, drawn := s2.drawn, toks := tk } : Shared) = sc at I3
    have hh3 : sc.heap = h3 := by rw [← hsc]
    generalize hH3 : upd H2 P (.tbl (ps ++ more)) = H3 at I3
    have tab : GxR.Tabbed P H2 H3 := by rw [← hH3]; exact ⟨⟨ps ++ more, upd_same, by rw [← em]; exact ht3⟩, fun b hb => upd_ne hb⟩
    obtain ⟨bm, ob, e1, e2, e3, e4, e5, e6, e7, e8⟩ := TB.bm
    refine wpAny_builtinsFor (m := X.mg) (by rw [I3.ok.glob]; exact I3.mod.glob.keeps I3.bk) e1 e2 (I3.bk _ _ e5) e6 e7 e8 ?_
    intro h' hns hsb
    obtain ⟨W, ⟨m0, w0⟩, turn⟩ := q H3 tab
    have st3 : tn 0 sc.heap := T.keep _ _ _ st2 fun b hb o e => by rw [hh3]; exact hx b o (fpne b hb) e
    have f3 : ∀ b ∈ fp, FpOk X pins H3 b ∧ b < sc.heap.objs.size := fun b hb => by
      obtain ⟨o, e, _⟩ := T.obj _ _ st3 b hb
      exact ⟨⟨(tab.2 b (fpne b hb)).trans (f2 b hb).1, (f2 b hb).2⟩, Heap.lt_size e⟩
    have hsz : h'.objs.size = sc.heap.objs.size + 1 := by rw [hsb.1, Heap.size_push]
    have kp1 : ∀ b o, sc.heap.get? b = some o → h'.get? b = some o := fun b o e => hsb.extBut b o (Nat.ne_of_lt (Heap.lt_size e)) (Heap.get?_push_of_some _ e)
    have limc : sc.heap.NoLimit := I3.nolimit
    have main : ∀ (go : Obj) (nm qn : Value) (tk2 : Nat), go.cls = .type "generator" → go.data = .fields #[.int sc.gens.size 0, nm, qn] → go.slots = #[] → (∀ h : Heap, (h.push go).get? h.objs.size = some go) →
        Q' (.ref h'.objs.size) { sc with gens := sc.gens.push (.fresh (.compStart (.GeneratorExp elt [⟨tg, iter, ifs, 0⟩] scope gpos) 0 (.ref it) .none (genEnv scope (cloFrom X.env.cells scope.names []) sc.heap.objs.size code builtinsNs X.env))), toks := tk2, heap := h'.push go } := by
      intro go nm qn tk2 hgc hgd0 hgs hgp
      have hgen : ∀ h : Heap, h.get? h'.objs.size = some go → h.IsGen h'.objs.size sc.gens.size := fun h e => ⟨go, nm, qn, e, hgc, hgd0, hgs⟩
      have hgd : ∀ v, go.data ≠ .cell v := fun v q => by rw [hgd0] at q; cases q
      have kp5 : ∀ b o, sc.heap.get? b = some o → (h'.push go).get? b = some o := fun b o e => Heap.get?_push_of_some _ (kp1 b o e)
      refine hQ H3 sc fp _ _ I3 (fun b hb => ⟨(f3 b hb).1.2.2.2.1, (f3 b hb).1.2.1, (f3 b hb).1.2.2.2.2.1, (f3 b hb).1.2.2.2.2.2⟩) ⟨h'.objs.size, sc.gens.size, _, rfl, by omega, by show _ < (h'.push go).objs.size; rw [Heap.size_push]; exact Nat.lt_succ_self _, hgen _ (hgp _), Array.getElem?_push_size .., ⟨go, hgp _, hgen, hgd⟩, rfl, AllBare.push I3.bare rfl, limc.keeps kp5, kp5, ?_⟩
      intro A S C gp s9 hrA hfr hC hgn hgp9 hSy hk9 hS9 hos9 hba9
      obtain ⟨oS, eS, hCo⟩ := hS9
      have kp9 : ∀ b o, sc.heap.get? b = some o → s9.heap.get? b = some o := fun b o e => hk9 b o (kp5 b o e)
      have hns9 : s9.heap.Ns sc.heap.objs.size (fun y => if y = ".0" then some (.ref it) else none) := hns.keeps fun b o e => hk9 b o (Heap.get?_push_of_some _ e)
      have I9 := gen_start (A := A) (gp := gp) (pl := [(S, oS)]) (cenv := genEnv scope (cloFrom X.env.cells scope.names []) sc.heap.objs.size code builtinsNs X.env) (s2 := s9) I3 ok hN hnc f3 hrA.hd hfr rfl kp9 hns9 hos9 hba9 (fun p hp => by
        rcases List.mem_append.mp hp with hp | hp
        · exact ⟨(hgp9 p hp).2.2.1, (hgp9 p hp).2.1, (hgp9 p hp).2.2.2⟩
        · rw [List.mem_singleton.mp hp]
          exact ⟨eS, hSy, hC _ _ hCo⟩)
      have hSf : S ∉ fp := fun z => absurd (Nat.lt_trans hSy (f3 S z).2) (Nat.lt_irrefl _)
      have hAp : Apart (gcx X A sc H3 (genEnv scope (cloFrom X.env.cells scope.names []) sc.heap.objs.size code builtinsNs X.env) fp gp) S := by
        refine ⟨Nat.le_of_lt hSy, Nat.ne_of_gt hSy, fun y cc e z => ?_⟩
        obtain ⟨v, ob, ho, _⟩ := I9.cell y cc e
        have e' : (cloFrom X.env.cells scope.names []).lookup y = some cc := e
        rcases cloFrom_mem (PySem.mem_of_lookup e') with hm | ⟨h1, h2⟩
        · cases hm
        · obtain ⟨c2, hc2⟩ := hfree _ h1 rfl
          obtain ⟨w, z2⟩ := I3.cell _ _ hc2
          have h3 : cc = c2 := by rw [h2, hc2]; rfl
          have hl : c2 < sc.heap.objs.size := z2.lt
          rw [← h3, z] at hl
          exact absurd (Nat.lt_trans hSy hl) (Nat.lt_irrefl _)
      exact seg_start hC hY hgn (fun p hp => ⟨(hgp9 p hp).1, fun z => absurd (Nat.lt_trans (hgp9 p hp).2.1 (f3 _ z).2) (Nat.lt_irrefl _)⟩) hSf hAp hco T (hg A sc H3 _ _ _ fp gp) (ht A sc H3 _ _ _ fp gp (hrA.deeper _)) (he A sc H3 _ _ _ fp gp (hrA.deeper _)) turn w0
        ⟨oS, hCo, I9⟩ (T.keep _ _ _ st3 fun b hb o e => kp9 b o e) (fun b hb => (f3 b hb).1.1) fun _ e => e
    exact main _ _ _ _ rfl rfl rfl fun h => Heap.get?_push_size _ rfl
  cases hf : codeAmong gpos ps.toList with
  | none =>
    refine wpAny_genexprCodeX hcode (cd.code hPs htr) (cd.tab hPs) hf fun c' h' tk hx hge hlt hco' _ htab' _ => ?_
    obtain ⟨o1, vs, f1, tf, fl, tg, inF, tx, tt, op, _, _, _, _, _, _, _, _, _, htr', _⟩ := hco'
    exact cont _ h' tk _ hx htab'.2 ⟨_, rfl⟩ htr'
  | some cv =>
    refine wpAny_genexprCode_hit hcode (cd.code hPs htr) hf ?_
    exact cont cv s2.heap s2.toks ps (Heap.ExtBut.refl _ _) hPs ⟨#[], by simp⟩ htr
end
end GE

set_option Elab.async false
set_option linter.all false
set_option maxRecDepth 100000
set_option maxHeartbeats 2000000
namespace GE
open PySem PySem.Spec PyProof.Rows L2 GenW
structure Out (P : Program) (w : World) (outer : List Env) (ex : List Addr) (H : Hp) (s : Shared) (S : Addr) (C : CO) (ys : List V) (H' : Hp) (s' : Shared) : Prop where
  os : s'.os = s.os
  bare : AllBare s'.gens
  un : Un (frs outer) ex H H' s.heap s'.heap
  hok : HOk P w H' s'.heap
  free : H' S = none
  own : ∃ o, s'.heap.get? S = some o ∧ C ys o
section
variable {P : Program} {w : World} {outer : List Env} {ex : List Addr} {H : Hp} {sc : Shared} {S a : Addr} {g : Nat} {C : CO} {Yo : YO} {En : EN}
def RdyX (P : Program) (w : World) (outer : List Env) (ex : List Addr) (H : Hp) (sc : Shared) (S a : Addr) (g : Nat) (C : CO) (Yo : YO) (En : EN) (A1 : Around) (m : Nat) (s : Shared) : Prop :=
  s.heap.IsGen a g ∧ s.heap.NoLimit ∧ ∃ gs, s.gens[g]? = some gs ∧ gs.Goes (model P w) A1 (REx P w outer ex H sc S a g C En) (GYx P w outer ex H sc S a g C Yo) m (.send .none) (s.setGen g .running)
theorem next_x {A0 : Around} {s : Shared} {m : Nat} {Q : Option Value → Shared → Prop} {E : Value → Shared → Prop} (hY : ∀ ys y H K K', (K → K') → Yo ys y H K → Yo ys y H K') (hh : A0.handled = none) (hd : A0.depth < recursionLimit)
    (hr : RdyX P w outer ex H sc S a g C Yo En A0.in1 m s)
    (hend : ∀ ys H' s', Out P w outer ex H sc S C ys H' s' → (∀ ob, s.heap.get? S = some ob → s'.heap.get? S = some ob) → ys.length ≤ sizeLine → En ys H' → Q none s')
    (hyl : ∀ ys x H' v s', RelV x v → Out P w outer ex H sc S C ys H' s' → s'.heap.NoLimit → s'.heap.IsGen a g → (∀ ob, s.heap.get? S = some ob → s'.heap.get? S = some ob) → ys.length < sizeLine →
      Yo ys x H' (∀ s'', s''.os = s'.os → s''.gens = s'.gens → (∀ b o, b ≠ S → s'.heap.get? b = some o → s''.heap.get? b = some o) → (∃ o, s''.heap.get? S = some o ∧ C (ys ++ [x]) o) → s''.heap.IsGen a g → s''.heap.NoLimit →
        ∃ k, m = k + 1 ∧ RdyX P w outer ex H sc S a g C Yo En A0.in1 k s'') → Q (some v) s') :
    wpAny (model P w) A0 (pyNext (.ref a)) Q E s := by
  obtain ⟨hg, hl, gs, hgs, hgo⟩ := hr
  have hgl : g < s.gens.size := (Array.getElem?_eq_some_iff.mp hgs).1
  refine wpAny_gsz (n := g + 1) hgl (next_genG (F := Fi P w outer ex H sc S a g C En) (Er := fun _ _ => False) hh hl hd hg hgs hgo (fun v s₁ gs' hbare hv => ?_) (fun s₁ hp h' hk => ?_) fun e s₁ he => he.elim)
  · intro hsz
    have hsz1 : g < s₁.gens.size := by
      have q : (s₁.setGen g gs').gens.size = s₁.gens.size := setGen_size _ _ _
      have hsz' : g + 1 ≤ (s₁.setGen g gs').gens.size := hsz
      omega
    obtain ⟨ys, x, H', hn, rv, h0, M, hyo⟩ := hv
    refine hyl ys x H' v _ rv ⟨M.os, allBare_setGen M.bare hbare, M.un, M.hok, M.free, M.own⟩ M.lim M.gen h0 (by omega) (hY _ _ _ _ _ (fun hk s'' h1 h2 h3 h4 h5 h6 => ?_) hyo)
    have z := hk (s''.setGen g .running) ⟨h1, allBare_setGen (by rw [h2]; exact allBare_setGen M.bare hbare) rfl, h3, h4⟩
    cases m with
    | zero => exact False.elim z
    | succ k => exact ⟨k, rfl, h5, h6, gs', by rw [h2]; exact setGen_at hsz1, z⟩
  · intro _
    obtain ⟨ys, H', hn, h0, M, he⟩ := hp
    obtain ⟨o, eS, hCo⟩ := M.own
    exact hend ys H' _ ⟨M.os, allBare_setGen M.bare rfl, M.un.trans (Un.kept hk), M.hok.kept hk, M.free, o, hk _ _ eS, hCo⟩ (fun ob e => hk _ _ (h0 ob e)) (by omega) he

/-! ### all, any -/
def YAll (Qf : Hp → Prop) : YO := fun _ y H K => ∃ b, y = .bl b ∧ (b = true → K) ∧ (b = false → Qf H)
def YAny (Qt : Hp → Prop) : YO := fun _ y H K => ∃ b, y = .bl b ∧ (b = false → K) ∧ (b = true → Qt H)
theorem YAll.mono {Qf : Hp → Prop} : ∀ ys y H K K', (K → K') → YAll Qf ys y H K → YAll Qf ys y H K' := fun _ _ _ _ _ f ⟨b, e, h1, h2⟩ => ⟨b, e, fun z => f (h1 z), h2⟩
theorem YAny.mono {Qf : Hp → Prop} : ∀ ys y H K K', (K → K') → YAny Qf ys y H K → YAny Qf ys y H K' := fun _ _ _ _ _ f ⟨b, e, h1, h2⟩ => ⟨b, e, fun z => f (h1 z), h2⟩
theorem all_loop {A : Around} {R : Result → Shared → Prop} {go : Obj} {Qf : Hp → Prop} (hh : A.handled = none) (hd : A.depth < recursionLimit)
    (hT : ∀ ys H' s', Out P w outer ex H sc a (fun _ o => o = go) ys H' s' → En ys H' → R (.ok (.ret (.bool true))) s') (hF : ∀ ys H' s', Out P w outer ex H sc a (fun _ o => o = go) ys H' s' → Qf H' → R (.ok (.ret (.bool false))) s') :
    ∀ (m : Nat) (s : Shared), RdyX P w outer ex H sc a a g (fun _ o => o = go) (YAll Qf) En A.in1.in1 m s → codeAny (model P w) A (.builtin "all.loop" ⟨[.ref a], []⟩) R s := by
  intro m
  induction m using Nat.strongRecOn with
  | ind m ih =>
    intro s hr
    refine codeAny_builtin F.entry_all_loop ?_
    rw [Around.under_plainId F.plain_all_loop _]
    show wpAny _ A.in1 (pyNext (.ref a) >>= _) _ _ s
    refine wpAny_bind (next_x (A0 := A.in1) YAll.mono hh hd hr (fun ys H' s' O _ _ he => ?_) fun ys x H' v s' rv O hl hg _ hlt hy => ?_)
    · exact wpAny_bind (wpAny_rule (wpAny_pure (hT ys H' s' O he)))
    · obtain ⟨b, rfl, h1, h2⟩ := hy
      obtain rfl : v = Value.bool b := rv
      refine wpAny_bind (wpAny_holding (wpAny_truthy_bool ?_))
      refine wpAny_bind (wpAny_letGo ?_)
      cases b with
      | true =>
        simp only [if_true]
        obtain ⟨k, rfl, hr'⟩ := h1 rfl s' rfl rfl (fun _ _ _ e => e) O.own hg hl
        exact wpAny_pure ⟨plainId_quiet F.plain_all_loop _, ih k (Nat.lt_succ_self k) s' hr'⟩
      | false =>
        simp only [Bool.false_eq_true, if_false]
        exact wpAny_bind (wpAny_rule (wpAny_pure (hF ys H' s' O (h2 rfl))))
theorem any_loop {A : Around} {R : Result → Shared → Prop} {go : Obj} {Qt : Hp → Prop} (hh : A.handled = none) (hd : A.depth < recursionLimit)
    (hF : ∀ ys H' s', Out P w outer ex H sc a (fun _ o => o = go) ys H' s' → En ys H' → R (.ok (.ret (.bool false))) s') (hT : ∀ ys H' s', Out P w outer ex H sc a (fun _ o => o = go) ys H' s' → Qt H' → R (.ok (.ret (.bool true))) s') :
    ∀ (m : Nat) (s : Shared), RdyX P w outer ex H sc a a g (fun _ o => o = go) (YAny Qt) En A.in1.in1 m s → codeAny (model P w) A (.builtin "any.loop" ⟨[.ref a], []⟩) R s := by
  intro m
  induction m using Nat.strongRecOn with
  | ind m ih =>
    intro s hr
    refine codeAny_builtin F.entry_any_loop ?_
    rw [Around.under_plainId F.plain_any_loop _]
    show wpAny _ A.in1 (pyNext (.ref a) >>= _) _ _ s
    refine wpAny_bind (next_x (A0 := A.in1) YAny.mono hh hd hr (fun ys H' s' O _ _ he => ?_) fun ys x H' v s' rv O hl hg _ hlt hy => ?_)
    · exact wpAny_bind (wpAny_rule (wpAny_pure (hF ys H' s' O he)))
    · obtain ⟨b, rfl, h1, h2⟩ := hy
      obtain rfl : v = Value.bool b := rv
      refine wpAny_bind (wpAny_holding (wpAny_truthy_bool ?_))
      refine wpAny_bind (wpAny_letGo ?_)
      cases b with
      | false =>
        simp only [Bool.false_eq_true, if_false]
        obtain ⟨k, rfl, hr'⟩ := h1 rfl s' rfl rfl (fun _ _ _ e => e) O.own hg hl
        exact wpAny_pure ⟨plainId_quiet F.plain_any_loop _, ih k (Nat.lt_succ_self k) s' hr'⟩
      | true =>
        simp only [if_true]
        exact wpAny_bind (wpAny_rule (wpAny_pure (hT ys H' s' O (h2 rfl))))

/-! ### sum -/
def iv : V → Int
  | .int z => z
  | _ => 0
def isum (ys : List V) : Int := (ys.map iv).sum
theorem isum_snoc (ys : List V) (z : Int) : isum (ys ++ [.int z]) = isum ys + z := by
  unfold isum
  rw [List.map_append, List.sum_append]
  show _ + ([z] : List Int).sum = _
  rw [show ([z] : List Int).sum = z by simp]
def YSum : YO := fun ys y _ K => ∃ z, y = .int z ∧ (-(2 ^ 63) ≤ z ∧ z < 2 ^ 63) ∧ (-(2 ^ 63) ≤ isum ys + z ∧ isum ys + z < 2 ^ 63) ∧ K
theorem YSum.mono : ∀ ys y H K K', (K → K') → YSum ys y H K → YSum ys y H K' := fun _ _ _ _ _ f ⟨b, e, h1, h2, h3⟩ => ⟨b, e, h1, h2, f h3⟩
def CSum : CO := fun ys o => ∃ (t : Tok) (c : Nat), o = { cls := .type "list", dict := none, data := .seq #[.int (isum ys) t] c, slots := #[] }
theorem sum_loop {A : Around} {R : Result → Shared → Prop} (hh : A.handled = none) (hd : A.depth < recursionLimit) (hSa : S ≠ a) (hSc : S ≠ cStatics)
    (hT : ∀ ys H' s' t, Out P w outer ex H sc S CSum ys H' s' → En ys H' → R (.ok (.ret (.int (isum ys) t))) s') :
    ∀ (m : Nat) (s : Shared) (ys : List V), RdyX P w outer ex H sc S a g CSum YSum En A.in1.in1 m s → (∃ o, s.heap.get? S = some o ∧ CSum ys o) →
      codeAny (model P w) A (.builtin "sum.loop" ⟨[.ref a, .ref S, rawInt 0, rawInt 0], []⟩) R s := by
  have same : ∀ {zs ws : List V} {o : Obj}, CSum zs o → CSum ws o → isum zs = isum ws := fun {zs ws o} h1 h2 => by
    obtain ⟨t, c, e1⟩ := h1
    obtain ⟨t', c', e2⟩ := h2
    rw [e1] at e2
    have e3 := congrArg Obj.data e2
    injection e3 with e4 _
    have e5 := congrArg (fun v : Array Value => v[0]?) e4
    simp at e5
    exact e5.1
  intro m
  induction m using Nat.strongRecOn with
  | ind m ih =>
    intro s ys hr hS
    obtain ⟨o, eS, hCo⟩ := hS
    obtain ⟨t, c, eo⟩ := _root_.id hCo
    refine codeAny_builtin F.entry_sum_loop ?_
    rw [Around.under_plainId F.plain_sum_loop _]
    show wpAny _ A.in1 (seqItems? (.ref S) >>= _) _ _ s
    refine wpAny_bind (wpAny_seqItems eS (by rw [eo]) ?_)
    show wpAny _ A.in1 (tryCatch (pyNext (.ref a)) _ >>= _) _ _ s
    refine wpAny_bind (wpAny_tryCatch (next_x (A0 := A.in1) YSum.mono hh hd hr (fun zs H' s' O h0 _ he => ?_) fun zs x H' v s' rv O hl hg h0 hlt hy => ?_))
    · obtain ⟨o', eS', hCo'⟩ := O.own
      have eoo := h0 o eS
      rw [eS'] at eoo
      have : o' = o := Option.some.inj eoo
      rw [this] at hCo'
      have hsum := same hCo hCo'
      have := hT zs H' s' t O he
      rw [← hsum] at this
      exact wpAny_pure this
    · obtain ⟨o', eS', hCo'⟩ := O.own
      have eoo := h0 o eS
      rw [eS'] at eoo
      have e9 : o' = o := Option.some.inj eoo
      rw [e9] at hCo' eS'
      have hsum := same hCo hCo'
      obtain ⟨z, rfl, ⟨f1, f2⟩, ⟨f3, f4⟩, hk⟩ := hy
      obtain ⟨tz, rfl⟩ := (show ∃ t, v = Value.int z t from rv)
      rw [← hsum] at f3 f4
      have hc : ((decide (-(2 ^ 63) ≤ z) && decide (z < 2 ^ 63)) && (decide (-(2 ^ 63) ≤ isum ys + z) && decide (isum ys + z < 2 ^ 63))) = true := by
        simp only [Bool.and_eq_true, decide_eq_true_eq]
        exact ⟨⟨f1, f2⟩, f3, f4⟩
      show wpAny _ A.in1 (if (_ : Bool) = true then (mkInt (isum ys + z) >>= _) else _) _ _ _
      split
      · refine wpAny_bind (wpAny_mkInt ?_)
        show wpAny _ A.in1 (updateSeq S (fun _ => #[.int (isum ys + z) s'.toks]) >>= _) _ _ _
        refine wpAny_bind ?_
        have eS2 : s'.heap.get? S = some { cls := .type "list", dict := none, data := .seq #[.int (isum ys) t] c, slots := #[] } := by rw [eS', eo]
        have keep3 : ∀ b ob, b ≠ S → s'.heap.get? b = some ob → (s'.heap.update S (Obj.mapSeq (fun _ => #[.int (isum ys + z) s'.toks]))).get? b = some ob := fun b ob hb e => (Heap.get?_update_other _ _ (Ne.symm hb)).trans e
        refine wpAny_updateSeq eS2 rfl (wpAny_pure ⟨plainId_quiet F.plain_sum_loop _, ?_⟩)
        have own2 : ∃ o, (s'.heap.update S (Obj.mapSeq (fun _ => #[.int (isum ys + z) s'.toks]))).get? S = some o ∧ CSum (zs ++ [.int z]) o := ⟨_, Heap.get?_update_self _ eS2 rfl, s'.toks, _, by rw [isum_snoc, ← hsum]; rfl⟩
        obtain ⟨k, rfl, hr'⟩ := hk { s' with heap := s'.heap.update S (Obj.mapSeq (fun _ => #[.int (isum ys + z) s'.toks])), toks := s'.toks + 1 } rfl rfl keep3 own2 (by obtain ⟨og, nm, qn, ho, r⟩ := hg; exact ⟨og, nm, qn, keep3 a og (Ne.symm hSa) ho, r⟩)
          (by obtain ⟨mc, hns, hnn⟩ := hl; exact ⟨mc, hns.at' fun o e => keep3 _ o (Ne.symm hSc) e, hnn⟩)
        exact ih k (Nat.lt_succ_self k) _ (zs ++ [.int z]) hr' own2
      · rename_i hneg
        exact absurd hc hneg
end
end GE

set_option Elab.async false
set_option linter.all false
set_option maxRecDepth 100000
set_option maxHeartbeats 2000000
namespace GE
open PySem PySem.Spec PyProof.Rows L2 GenW
open Sem (wp)
open AutoSeq1 (wpAny_loadPart')
/-! ### a list filled -/
def CLst : CO := fun ys o => ∃ (acc : Array Value) (c : Nat), Vals ys acc.toList ∧ o = lstObj acc c
def YItm : YO := fun _ _ _ K => K
theorem YItm.mono : ∀ ys y H K K', (K → K') → YItm ys y H K → YItm ys y H K' := fun _ _ _ _ _ f h => f h
section
variable {P : Program} {w : World} {outer : List Env} {ex : List Addr} {H : Hp} {sc : Shared} {S a : Addr} {g : Nat} {En : EN}
theorem lst_loop {A : Around} {R : Result → Shared → Prop} {res : Value} (hh : A.handled = none) (hd : A.depth < recursionLimit) (hSa : S ≠ a) (hSc : S ≠ cStatics)
    (hT : ∀ ys H' s', Out P w outer ex H sc S CLst ys H' s' → ys.length ≤ sizeLine → En ys H' → R (.ok (.ret res)) s') :
    ∀ (m : Nat) (s : Shared), RdyX P w outer ex H sc S a g CLst YItm En A.in1.in1 m s → codeAny (model P w) A (.builtin "list.extend.loop" ⟨[.ref S, .ref a, res], []⟩) R s := by
  intro m
  induction m using Nat.strongRecOn with
  | ind m ih =>
    intro s hr
    refine codeAny_builtin F.entry_extend_loop ?_
    rw [Around.under_plainId F.plain_extend_loop _]
    show wpAny _ A.in1 (pyNext (.ref a) >>= _) _ _ s
    refine wpAny_bind (next_x (A0 := A.in1) YItm.mono hh hd hr (fun zs H' s' O h0 hle he => ?_) fun zs x H' v s' rv O hl hg h0 hlt hk => ?_)
    · exact wpAny_pure (hT zs H' s' O hle he)
    · obtain ⟨o', eS', acc, c, r, eo⟩ := O.own
      rw [eo] at eS'
      have hsz : acc.size = zs.length := by
        have e1 := r.length
        have e2 : acc.toList.length = acc.size := by simp
        omega
      show wpAny _ A.in1 (updateSeq S (·.push v) >>= _) _ _ _
      refine wpAny_bind ?_
      have keep3 : ∀ b ob, b ≠ S → s'.heap.get? b = some ob → (s'.heap.update S (Obj.mapSeq (·.push v))).get? b = some ob := fun b ob hb e => (Heap.get?_update_other _ _ (Ne.symm hb)).trans e
      refine wpAny_updateSeq eS' rfl (wpAny_pure ⟨plainId_quiet F.plain_extend_loop _, ?_⟩) (by omega) (by show (acc.push v).size ≤ sizeLine + 1; rw [Array.size_push]; omega)
      obtain ⟨k, rfl, hr'⟩ := hk { s' with heap := s'.heap.update S (Obj.mapSeq (·.push v)) } rfl rfl keep3 ⟨_, Heap.get?_update_self _ eS' rfl, acc.push v, _, by rw [Array.toList_push]; exact r.append (.cons rv .nil), rfl⟩
        (by obtain ⟨og, nm, qn, ho, r⟩ := hg; exact ⟨og, nm, qn, keep3 a og (Ne.symm hSa) ho, r⟩) (by obtain ⟨mc, hns, hnn⟩ := hl; exact ⟨mc, hns.at' fun o e => keep3 _ o (Ne.symm hSc) e, hnn⟩)
      exact ih k (Nat.lt_succ_self k) _ hr'
end
/-- a generator that has not begun, collected -/
theorem collect_x {X : Cx} {k : Nat} {H : Hp} {sc s : Shared} {fp : List Addr} {En : EN} {u : Value} {A : Around} {Q : List Value → Shared → Prop} {E : Value → Shared → Prop} (hr : Room (k + 1) A.in1.in1) (hfr : A.in1.in1.frames = some X.stack) (hM : MadeX X k H sc fp YItm En u s)
    (hQ : ∀ ys H' s' acc, Out X.prog X.w X.stack fp H sc s.heap.objs.size CLst ys H' s' → Vals ys acc → ys.length ≤ sizeLine → En ys H' → Q acc s') : wpAny (model X.prog X.w) A (collect u) Q E s := by
  obtain ⟨a, g, c, rfl, ha1, ha2, hg, hgs, ⟨go, hgo, hgen, hgd⟩, hos, hb, hl, hkp, wake⟩ := hM
  have hcl : cStatics < s.heap.objs.size := let ⟨_, hn, _⟩ := hl; hn.lt
  have hSc : s.heap.objs.size ≠ cStatics := Nat.ne_of_gt hcl
  have hSI : s.heap.objs.size ≠ a := Nat.ne_of_gt ha2
  unfold collect
  refine wpAny_bind (wpAny_runValue (codeAny_builtin F.entry_proto_collect ?_))
  rw [Around.under_plainId F.plain_proto_collect _]
  show wpAny _ A.in1 (newList [] >>= fun l => again (.builtin "list.__iadd__" ⟨[l, .ref a], []⟩)) _ _ s
  refine wpAny_bind (wpAny_newObj_type ?_)
  refine wpAny_pure ⟨plainId_quiet F.plain_list_iadd _, codeAny_builtin F.entry_list_iadd ?_⟩
  rw [Around.under_plainId F.plain_list_iadd _]
  have k1 : ∀ b o, s.heap.get? b = some o → (s.heap.push { cls := .type "list", data := .seq ([] : List Value).toArray }).get? b = some o := fun b o e => Heap.get?_push_of_some _ e
  have gty : ∀ {h : Heap}, (∀ b o, s.heap.get? b = some o → h.get? b = some o) → h.IsGen a g := fun {h} q => hg.keeps q
  show wpAny _ A.in1 (Builtin.List.listExtendWith (.ref s.heap.objs.size) (.ref a) (.ref s.heap.objs.size)) _ _ _
  unfold Builtin.List.listExtendWith
  refine wpAny_bind (wpAny_typeOf (Heap.IsGen.typeIs (s := { s with heap := _ }) (gty k1)) ?_)
  have h1 : Builtin.List.listSameRef (.ref s.heap.objs.size) (.ref a) = false := by simp [Builtin.List.listSameRef, hSI]
  have h2 : (Value.type "generator" == Value.type "list") = false := by decide
  have h3 : (Value.type "generator" == Value.type "tuple") = false := by decide
  simp only [h1, h2, h3, Bool.or_false, Bool.false_eq_true, if_false]
  refine wpAny_bind (wpAny_pyIter_gen (s := { s with heap := _ }) (gty k1) ?_)
  refine wpAny_bind (wpAny_holding ?_)
  unfold Builtin.List.listLengthHint
  refine wpAny_bind (wpAny_specialOf (Heap.IsGen.typeIs (s := { s with heap := _ }) (gty k1)) F.gen_no_len ?_)
  show wpAny _ A.in1 (specialOf (Value.ref a) (Str.ofString "__length_hint__") >>= _) _ _ _
  refine wpAny_bind (wpAny_specialOf (Heap.IsGen.typeIs (s := { s with heap := _ }) (gty k1)) F.gen_no_hint ?_)
  refine wpAny_pure ?_
  show wpAny _ A.in1 (rule "list.extend.makes-room" >>= fun _ => Builtin.List.listTouch (.ref s.heap.objs.size) >>= fun _ =>
    again (.builtin "list.extend.loop" ⟨[.ref s.heap.objs.size, .ref a, .ref s.heap.objs.size], []⟩)) _ _ _
  refine wpAny_bind (wpAny_rule ?_)
  have hS₁ : (s.heap.push { cls := .type "list", data := .seq ([] : List Value).toArray }).get? s.heap.objs.size = some { cls := .type "list", data := .seq ([] : List Value).toArray } := Heap.get?_push_size _ rfl
  refine wpAny_bind ?_
  show wpAny _ A.in1 (updateSeq s.heap.objs.size (·.push .none) >>= fun _ => updateSeq s.heap.objs.size (·.pop)) _ _ _
  refine wpAny_bind (wpAny_updateSeq hS₁ rfl ?_)
  have hS₂ := Heap.get?_update_self (Obj.mapSeq (·.push Value.none)) hS₁ rfl
  refine wpAny_updateSeq hS₂ rfl ?_
  have hS₃ := Heap.get?_update_self (Obj.mapSeq (·.pop)) hS₂ rfl
  have k3 : ∀ b o, s.heap.get? b = some o →
      (((s.heap.push { cls := .type "list", data := .seq ([] : List Value).toArray }).update s.heap.objs.size (Obj.mapSeq (·.push Value.none))).update s.heap.objs.size (Obj.mapSeq (·.pop))).get? b = some o :=
    fun b o e => (Heap.get?_update_other _ _ (Ne.symm (Nat.ne_of_lt (Heap.lt_size e)))).trans ((Heap.get?_update_other _ _ (Ne.symm (Nat.ne_of_lt (Heap.lt_size e)))).trans (k1 b o e))
  refine wpAny_pure ⟨plainId_quiet F.plain_extend_loop _, lst_loop (A := A) (P := X.prog) (w := X.w) (outer := X.stack) (ex := fp) (H := H) (sc := sc) (En := En) (g := g) (show A.handled = none from hr.hd) (by have := hr.dp; show A.depth < _; have : A.in1.in1.depth = A.depth := rfl; omega) hSI hSc (fun ys H' s' O hle he => ?_) sizeLine _ ⟨gty k3, hl.keeps k3, _, hgs, rfl, ?_⟩⟩
  · obtain ⟨o, eS, acc, c', r, eo⟩ := _root_.id O.own
    rw [eo] at eS
    show wpAny _ A (load s.heap.objs.size >>= _) _ _ s'
    refine wpAny_bind (wpAny_load eS ?_)
    exact wpAny_pure (hQ ys H' s' acc.toList O r hle he)
  · refine wake A.in1.in1 s.heap.objs.size CLst [(a, go)] _ hr hfr (fun ys o hc v => ?_) (fun s' ys o e1 e2 e3 => hgen _ (e3 (a, go) (List.mem_singleton.mpr rfl))) (fun p hp => ?_) (Nat.lt_trans ha1 ha2) (fun b o e => k3 b o e) ⟨_, hS₃, #[], _, .nil, rfl⟩ hos (allBare_setGen (s := { s with heap := _ }) hb rfl)
    · obtain ⟨acc, cc, _, eo⟩ := hc
      rw [eo]
      exact fun z => by cases z
    · rw [List.mem_singleton.mp hp]
      exact ⟨Ne.symm hSI, ha1, k3 _ _ hgo, hgd⟩
theorem tuple_new_x {X : Cx} {k : Nat} {H : Hp} {sc s : Shared} {fp : List Addr} {En : EN} {u : Value} {A : Around} {Q₁ : Value → Shared → Prop} {E : Value → Shared → Prop} (hr : Room (k + 1) A.in1.in1.in1) (hfr : A.in1.in1.in1.frames = some X.stack) (hM : MadeX X k H sc fp YItm En u s)
    (hQ : ∀ ys H' s' acc, Out X.prog X.w X.stack fp H sc s.heap.objs.size CLst ys H' s' → Vals ys acc → ys.length ≤ sizeLine → En ys H' → Q₁ (.ref s'.heap.objs.size) { s' with heap := s'.heap.push { cls := .type "tuple", data := .seq acc.toArray } }) :
    codeAny (model X.prog X.w) A (.call (.builtin "tuple.__new__") ⟨[.type "tuple", u], []⟩) (wants Q₁ E) s := by
  have hM' := hM
  obtain ⟨a, g, c, rfl, ha1, ha2, hg, hgs, ⟨go, hgo, hgen, hgd⟩, hos, hb, hl, hkp, wake⟩ := hM'
  refine codeAny_of_tree ?_
  show wpAny _ A.in1 (do checkBuiltinCall "tuple.__new__" ⟨[.type "tuple", .ref a], []⟩; again (.builtin "tuple.__new__" ⟨[.type "tuple", .ref a], []⟩)) _ _ s
  refine wpAny_bind (wpAny_of_eq (F.newCall_tuple_1 _) (wpAny_pure ⟨plainId_quiet F.plain_tuple_new _, codeAny_builtin F.entry_tuple_new ?_⟩))
  rw [Around.under_plainId F.plain_tuple_new _]
  have hsub := sub_tuple_self
  have hinit := init_tuple_lookup
  have hmh := madeHere_tuple
  have hTI : s.TypeIs (.ref a) "generator" := hg.typeIs
  wp_walk using wpAny_typeOf hTI, collect_x hr hfr hM
  intro ys H' s' acc O r hle he
  show wpAny _ _ (Builtin.Tuple.tupleExact acc.toArray >>= fun v => ret v) _ _ _
  unfold Builtin.Tuple.tupleExact
  have hsz : acc.toArray.size ≤ sizeLine := by
    have e1 := r.length
    rw [List.size_toArray]; omega
  refine wpAny_bind (wpAny_newObj_type ?_ hsz)
  exact wpAny_pure (hQ ys H' s' acc O r hle he)
theorem call_tuple_x {X : Cx} {k : Nat} {H : Hp} {sc s : Shared} {fp : List Addr} {En : EN} {u : Value} {A : Around} {Q : Value → Shared → Prop} {E : Value → Shared → Prop} (hr : Room (k + 1) A.in1.in1.in1.in1) (hfr : A.in1.in1.in1.in1.frames = some X.stack) (hM : MadeX X k H sc fp YItm En u s)
    (hQ : ∀ ys H' s' acc, Out X.prog X.w X.stack fp H sc s.heap.objs.size CLst ys H' s' → Vals ys acc → ys.length ≤ sizeLine → En ys H' → Q (.ref s'.heap.objs.size) { s' with heap := s'.heap.push { cls := .type "tuple", data := .seq acc.toArray } }) :
    wpAny (model X.prog X.w) A (call (.type "tuple") [u]) Q E s := by
  obtain ⟨a, _, _, rfl, _⟩ := _root_.id hM
  refine callType_codes (Q₁ := fun obj s₁ => s₁.TypeIs obj "tuple" ∧ Q obj s₁) F.called_tuple (F.typeCall_tuple_1 _) F.entry_object_init
    (tuple_new_x hr hfr hM fun ys H' s' acc O r hle he => ⟨⟨_, Heap.get?_push_size _ rfl, rfl⟩, hQ ys H' s' acc O r hle he⟩) fun obj s₁ h₁ => ?_
  exact ⟨h₁.1, F.args_object_init_2 obj _, object_init_meets F.called_tuple.init.lookup F.called_tuple.made (by decide) _ _ A.in1 _ s₁ ⟨h₁.1, rfl, h₁.2⟩⟩
end GE

set_option Elab.async false
set_option linter.all false
set_option maxRecDepth 100000
set_option maxHeartbeats 2000000
namespace GE
open PySem PySem.Spec PyProof.Rows L2 GenW
section
variable {X : Cx}
theorem back {pins : List (Addr × Obj)} {σ : L2.St} {H2 H' : Hp} {sc s' : Shared} {fp : List Addr} {S : Addr} {C : CO} {ys : List V} (I : Inv X pins σ H2 sc) (hex : ExOk X pins fp) (O : Out X.prog X.w X.stack fp H2 sc S C ys H' s') : Inv X pins σ H' s' :=
  I.call' (ch := fp) O.os O.un O.hok O.bare hex
variable {c P : Addr} {elt iter tg : Expr} {ifs : List Expr} {gpos p pos : Pos} {scope : Scope} {own : List (Str × Nat)} {wi : TI} {g : TG} {tt : TT} {te : TE} {k : Nat}
def tAllG (wi : TI) (g : TG) (tt : TT) (te : TE) (vs : List Nat) (P : Addr) : TE := fun σ H Q => tGx wi g tt te vs P (YAll fun H' => Q (.bl false) H') (fun _ H' => Q (.bl true) H') σ H
def tAnyG (wi : TI) (g : TG) (tt : TT) (te : TE) (vs : List Nat) (P : Addr) : TE := fun σ H Q => tGx wi g tt te vs P (YAny fun H' => Q (.bl true) H') (fun _ H' => Q (.bl false) H') σ H
def tSumG (wi : TI) (g : TG) (tt : TT) (te : TE) (vs : List Nat) (P : Addr) : TE := fun σ H Q => tGx wi g tt te vs P YSum (fun ys H' => Q (.int (isum ys)) H') σ H
def tTupG (wi : TI) (g : TG) (tt : TT) (te : TE) (vs : List Nat) (P : Addr) : TE := fun σ H Q => tGx wi g tt te vs P YItm (fun ys H' => ∀ q, H' q = none → Q (.ref q) (upd H' q (.tup ys))) σ H
/-- what a genexpr's block asks -/
structure GBlk (X : Cx) (scope : Scope) (own : List (Str × Nat)) : Prop where
  ok : BlkOk X.N X.env.scope scope own
  nc : ∀ y ∈ scope.names, y.2 ≠ .cell
  co : scope.isCoroutine = false
  dot : scope.names.lookup (".0" : Str) = some NameKind.local
def gblkC (N : List Str) (sc scope : Scope) (own : List (Str × Nat)) : Bool := blkC N sc scope own && (scope.names.all fun y => match y.2 with | .cell => false | _ => true) && (!scope.isCoroutine) && (match scope.names.lookup (".0" : Str) with | some .local => true | _ => false)
theorem gblk_by {N : List Str} {sc : Scope} (h : gblkC N sc scope own = true) (hN : X.N = N := by rfl) (hsc : X.env.scope = sc := by rfl) : GBlk X scope own := by
  unfold gblkC at h
  simp only [Bool.and_eq_true, List.all_eq_true] at h
  obtain ⟨⟨⟨h1, h2⟩, h3⟩, h4⟩ := h
  refine ⟨by rw [hN, hsc]; exact blkOk_by h1, fun y hy e => ?_, by simpa using h3, ?_⟩
  · have := h2 y hy
    rw [e] at this
    cases this
  · split at h4
    · assumption
    · cases h4
theorem pe_allG (hr : Room (k + 2) X.A) (hgl : Gl X "all") (hm : X.mg "all" = none) (hN : X.N.Nodup) (TB : GxR.TabB X.base X.mg c P) (hcode : X.env.code = .ref c) (hi : PI X tg iter wi) (B : GBlk X scope own)
    (hg : ∀ (A : Around) (s : Shared) (H : Hp) (C : Addr) (cl : List (Str × Addr)) (code : Value) (fp : List Addr) (gp : List (Addr × Obj)), PG (gcx X A s H (genEnv scope cl C code builtinsNs X.env) fp gp) tg g)
    (ht : ∀ (A : Around) (s : Shared) (H : Hp) (C : Addr) (cl : List (Str × Addr)) (code : Value) (fp : List Addr) (gp : List (Addr × Obj)), Room k (A.deeper (genEnv scope cl C code builtinsNs X.env)) → PTs (gcx X A s H (genEnv scope cl C code builtinsNs X.env) fp gp) ifs tt)
    (hel : ∀ (A : Around) (s : Shared) (H : Hp) (C : Addr) (cl : List (Str × Addr)) (code : Value) (fp : List Addr) (gp : List (Addr × Obj)), Room k (A.deeper (genEnv scope cl C code builtinsNs X.env)) → PE (gcx X A s H (genEnv scope cl C code builtinsNs X.env) fp gp) elt te)
    (hs : ∀ v, genFold iter X.env v = pure v := by intro _; rfl) (hb : bootBuiltins "all" = some (.builtin "all") := by decide +kernel)
    (he : starEach [.GeneratorExp elt [⟨tg, iter, ifs, 0⟩] scope gpos] X.env = (false, eval (.GeneratorExp elt [⟨tg, iter, ifs, 0⟩] scope gpos) X.env) :: starEach [] X.env := by rfl) :
    PE X (.Call (.Name "all" p) [.GeneratorExp elt [⟨tg, iter, ifs, 0⟩] scope gpos] [] pos) (tAllG wi g tt te (own.map (·.2)) P) := by
  refine ⟨fun pins s σ H Q I h => ?_⟩
  refine wpAny_Call_Name_kw (ld_blt I hgl hm hb ?_)
  refine PyProof.Rows.callWith_builtin1 ?_ he (by rfl)
  rw [he]
  show wpAny _ _ (spliced ((false, eval (.GeneratorExp elt [⟨tg, iter, ifs, 0⟩] scope gpos) X.env) :: backTo pos (starEach [] X.env))) _ _ s
  refine Calls.spliced_cons (gen_make hr hN TB hcode hi B.ok B.nc B.co B.dot hg ht hel YAll.mono hs I h fun H2 sc fp u s5 I2 hex hM => ?_)
  refine Calls.spliced_nil ?_
  obtain ⟨a, g, cc, rfl, ha1, ha2, hgn, hgs, ⟨go, hgo, hgen, hgd⟩, hos, hba, hl, hkp, wake⟩ := hM
  refine call_function_tree F.kind_all F.plain_all F.entry_all (F.args_all1 _) ?_
  unfold Builtin.«all»
  refine wpAny_bind (m := oneArg "all" _) (wpAny_pure ?_)
  refine wpAny_bind (wpAny_pyIter_gen hgn ?_)
  refine wpAny_pure ⟨plainId_quiet F.plain_all_loop _, all_loop (A := X.A) (P := X.prog) (w := X.w) (outer := X.stack) (ex := fp) (H := H2) (sc := sc) (g := g) (go := go) hr.hd (by have := hr.dp; omega)
    (fun ys H' s' O he => ⟨.bl true, H', back I2 hex O, rfl, he⟩) (fun ys H' s' O he => ⟨.bl false, H', back I2 hex O, rfl, he⟩) sizeLine s5 ⟨hgn, hl, _, hgs, rfl, ?_⟩⟩
  refine wake X.A.in1.in1 a (fun _ o => o = go) [] _ ⟨hr.hd, ?_, ?_⟩ I.ok.frames (fun _ o e v => by rw [e]; exact hgd v) (fun s' ys o e1 e2 _ => hgen _ (by rw [e1, e2])) (fun p hp => by simp at hp) ha1 (fun b o e => e) ⟨go, hgo, rfl⟩ hos (allBare_setGen hba rfl)
  · have := hr.dp
    show X.A.depth + 3 * (k + 1) + 5 < _
    omega
  · have := hr.un
    show X.A.units + 1 + 1 + 16 * (k + 1) + 200 < _
    omega
theorem pe_anyG (hr : Room (k + 2) X.A) (hgl : Gl X "any") (hm : X.mg "any" = none) (hN : X.N.Nodup) (TB : GxR.TabB X.base X.mg c P) (hcode : X.env.code = .ref c) (hi : PI X tg iter wi) (B : GBlk X scope own)
    (hg : ∀ (A : Around) (s : Shared) (H : Hp) (C : Addr) (cl : List (Str × Addr)) (code : Value) (fp : List Addr) (gp : List (Addr × Obj)), PG (gcx X A s H (genEnv scope cl C code builtinsNs X.env) fp gp) tg g)
    (ht : ∀ (A : Around) (s : Shared) (H : Hp) (C : Addr) (cl : List (Str × Addr)) (code : Value) (fp : List Addr) (gp : List (Addr × Obj)), Room k (A.deeper (genEnv scope cl C code builtinsNs X.env)) → PTs (gcx X A s H (genEnv scope cl C code builtinsNs X.env) fp gp) ifs tt)
    (hel : ∀ (A : Around) (s : Shared) (H : Hp) (C : Addr) (cl : List (Str × Addr)) (code : Value) (fp : List Addr) (gp : List (Addr × Obj)), Room k (A.deeper (genEnv scope cl C code builtinsNs X.env)) → PE (gcx X A s H (genEnv scope cl C code builtinsNs X.env) fp gp) elt te)
    (hs : ∀ v, genFold iter X.env v = pure v := by intro _; rfl) (hb : bootBuiltins "any" = some (.builtin "any") := by decide +kernel)
    (he : starEach [.GeneratorExp elt [⟨tg, iter, ifs, 0⟩] scope gpos] X.env = (false, eval (.GeneratorExp elt [⟨tg, iter, ifs, 0⟩] scope gpos) X.env) :: starEach [] X.env := by rfl) :
    PE X (.Call (.Name "any" p) [.GeneratorExp elt [⟨tg, iter, ifs, 0⟩] scope gpos] [] pos) (tAnyG wi g tt te (own.map (·.2)) P) := by
  refine ⟨fun pins s σ H Q I h => ?_⟩
  refine wpAny_Call_Name_kw (ld_blt I hgl hm hb ?_)
  refine PyProof.Rows.callWith_builtin1 ?_ he (by rfl)
  rw [he]
  show wpAny _ _ (spliced ((false, eval (.GeneratorExp elt [⟨tg, iter, ifs, 0⟩] scope gpos) X.env) :: backTo pos (starEach [] X.env))) _ _ s
  refine Calls.spliced_cons (gen_make hr hN TB hcode hi B.ok B.nc B.co B.dot hg ht hel YAny.mono hs I h fun H2 sc fp u s5 I2 hex hM => ?_)
  refine Calls.spliced_nil ?_
  obtain ⟨a, g, cc, rfl, ha1, ha2, hgn, hgs, ⟨go, hgo, hgen, hgd⟩, hos, hba, hl, hkp, wake⟩ := hM
  refine call_function_tree F.kind_any F.plain_any F.entry_any (F.args_any1 _) ?_
  unfold Builtin.«any»
  refine wpAny_bind (m := oneArg "any" _) (wpAny_pure ?_)
  refine wpAny_bind (wpAny_pyIter_gen hgn ?_)
  refine wpAny_pure ⟨plainId_quiet F.plain_any_loop _, any_loop (A := X.A) (P := X.prog) (w := X.w) (outer := X.stack) (ex := fp) (H := H2) (sc := sc) (g := g) (go := go) hr.hd (by have := hr.dp; omega)
    (fun ys H' s' O he => ⟨.bl false, H', back I2 hex O, rfl, he⟩) (fun ys H' s' O he => ⟨.bl true, H', back I2 hex O, rfl, he⟩) sizeLine s5 ⟨hgn, hl, _, hgs, rfl, ?_⟩⟩
  refine wake X.A.in1.in1 a (fun _ o => o = go) [] _ ⟨hr.hd, ?_, ?_⟩ I.ok.frames (fun _ o e v => by rw [e]; exact hgd v) (fun s' ys o e1 e2 _ => hgen _ (by rw [e1, e2])) (fun p hp => by simp at hp) ha1 (fun b o e => e) ⟨go, hgo, rfl⟩ hos (allBare_setGen hba rfl)
  · have := hr.dp
    show X.A.depth + 3 * (k + 1) + 5 < _
    omega
  · have := hr.un
    show X.A.units + 1 + 1 + 16 * (k + 1) + 200 < _
    omega
theorem pe_sumG (hr : Room (k + 2) X.A) (hgl : Gl X "sum") (hm : X.mg "sum" = none) (hN : X.N.Nodup) (TB : GxR.TabB X.base X.mg c P) (hcode : X.env.code = .ref c) (hi : PI X tg iter wi) (B : GBlk X scope own)
    (hg : ∀ (A : Around) (s : Shared) (H : Hp) (C : Addr) (cl : List (Str × Addr)) (code : Value) (fp : List Addr) (gp : List (Addr × Obj)), PG (gcx X A s H (genEnv scope cl C code builtinsNs X.env) fp gp) tg g)
    (ht : ∀ (A : Around) (s : Shared) (H : Hp) (C : Addr) (cl : List (Str × Addr)) (code : Value) (fp : List Addr) (gp : List (Addr × Obj)), Room k (A.deeper (genEnv scope cl C code builtinsNs X.env)) → PTs (gcx X A s H (genEnv scope cl C code builtinsNs X.env) fp gp) ifs tt)
    (hel : ∀ (A : Around) (s : Shared) (H : Hp) (C : Addr) (cl : List (Str × Addr)) (code : Value) (fp : List Addr) (gp : List (Addr × Obj)), Room k (A.deeper (genEnv scope cl C code builtinsNs X.env)) → PE (gcx X A s H (genEnv scope cl C code builtinsNs X.env) fp gp) elt te)
    (hs : ∀ v, genFold iter X.env v = pure v := by intro _; rfl) (hb : bootBuiltins "sum" = some (.builtin "sum") := by decide +kernel)
    (he : starEach [.GeneratorExp elt [⟨tg, iter, ifs, 0⟩] scope gpos] X.env = (false, eval (.GeneratorExp elt [⟨tg, iter, ifs, 0⟩] scope gpos) X.env) :: starEach [] X.env := by rfl) :
    PE X (.Call (.Name "sum" p) [.GeneratorExp elt [⟨tg, iter, ifs, 0⟩] scope gpos] [] pos) (tSumG wi g tt te (own.map (·.2)) P) := by
  refine ⟨fun pins s σ H Q I h => ?_⟩
  refine wpAny_Call_Name_kw (ld_blt I hgl hm hb ?_)
  refine PyProof.Rows.callWith_builtin1 ?_ he (by rfl)
  rw [he]
  show wpAny _ _ (spliced ((false, eval (.GeneratorExp elt [⟨tg, iter, ifs, 0⟩] scope gpos) X.env) :: backTo pos (starEach [] X.env))) _ _ s
  refine Calls.spliced_cons (gen_make hr hN TB hcode hi B.ok B.nc B.co B.dot hg ht hel YSum.mono hs I h fun H2 sc fp u s5 I2 hex hM => ?_)
  refine Calls.spliced_nil ?_
  obtain ⟨a, g, cc, rfl, ha1, ha2, hgn, hgs, ⟨go, hgo, hgen, hgd⟩, hos, hba, hl, hkp, wake⟩ := hM
  refine call_function_tree F.kind_sum F.plain_sum F.entry_sum (F.args_sum1 _) ?_
  unfold Builtin.«sum»
  simp only [List.length_cons, List.length_nil]
  rw [if_neg (by decide)]
  refine wpAny_bind (wpAny_of_eq (show Builtin.Builtins.bindParams "sum" ["start"] 0 { } = pure [none] from rfl) ?_)
  refine wpAny_bind (wpAny_pyIter_gen hgn ?_)
  refine wpAny_bind (wpAny_mkInt ?_)
  refine wpAny_bind (wpAny_pure ?_)
  simp only [List.forIn_cons, List.forIn_nil]
  refine wpAny_bind (wpAny_bind (wpAny_bind (wpAny_isInstance (T := "int") (b := false) (typeIs_int _ _ _) PySem.sub_int_str ?_)))
  simp only [Bool.false_eq_true, if_false]
  refine wpAny_pure (wpAny_bind (wpAny_bind (wpAny_isInstance (T := "int") (b := false) (typeIs_int _ _ _) PySem.sub_int_bytes ?_)))
  simp only [Bool.false_eq_true, if_false]
  refine wpAny_pure (wpAny_bind (wpAny_bind (wpAny_isInstance (T := "int") (b := false) (typeIs_int _ _ _) PySem.sub_int_bytearray ?_)))
  simp only [Bool.false_eq_true, if_false]
  refine wpAny_pure (wpAny_pure ?_)
  refine wpAny_bind (wpAny_newObj_type ?_)
  have hcl : cStatics < s5.heap.objs.size := let ⟨_, hn, _⟩ := hl; hn.lt
  have k1 : ∀ b o, s5.heap.get? b = some o → (s5.heap.push { cls := .type "list", data := .seq ([Value.int 0 s5.toks] : List Value).toArray }).get? b = some o := fun b o e => Heap.get?_push_of_some _ e
  have hS1 : (s5.heap.push { cls := .type "list", data := .seq ([Value.int 0 s5.toks] : List Value).toArray }).get? s5.heap.objs.size = some { cls := .type "list", data := .seq ([Value.int 0 s5.toks] : List Value).toArray } := Heap.get?_push_size _ rfl
  have hC0 : CSum [] { cls := .type "list", data := .seq ([Value.int 0 s5.toks] : List Value).toArray } := ⟨_, _, rfl⟩
  refine wpAny_pure ⟨plainId_quiet F.plain_sum_loop _, sum_loop (A := X.A) (P := X.prog) (w := X.w) (outer := X.stack) (ex := fp) (H := H2) (sc := sc) (g := g) (S := s5.heap.objs.size) hr.hd (by have := hr.dp; omega) (Nat.ne_of_gt ha2) (Nat.ne_of_gt hcl)
    (fun ys H' s' t O he => ⟨.int (isum ys), H', back I2 hex O, ⟨t, rfl⟩, he⟩) sizeLine _ [] ⟨hgn.keeps k1, hl.keeps k1, _, hgs, rfl, ?_⟩ ⟨_, hS1, hC0⟩⟩
  refine wake X.A.in1.in1 s5.heap.objs.size CSum [(a, go)] _ ⟨hr.hd, ?_, ?_⟩ I.ok.frames (fun _ o e v => by obtain ⟨t, c', e⟩ := e; rw [e]; exact fun z => by cases z) (fun s' ys o e1 e2 e3 => hgen _ (e3 (a, go) (List.mem_singleton.mpr rfl)))
    (fun p hp => by rw [List.mem_singleton.mp hp]; exact ⟨Nat.ne_of_lt ha2, ha1, k1 _ _ hgo, hgd⟩) (Nat.lt_trans ha1 ha2) (fun b o e => k1 b o e) ⟨_, hS1, hC0⟩ hos (allBare_setGen (s := { s5 with heap := _ }) hba rfl)
  · have := hr.dp
    show X.A.depth + 3 * (k + 1) + 5 < _
    omega
  · have := hr.un
    show X.A.units + 1 + 1 + 16 * (k + 1) + 200 < _
    omega
theorem pe_tupG (hr : Room (k + 2) X.A) (hgl : Gl X "tuple") (hm : X.mg "tuple" = none) (hN : X.N.Nodup) (TB : GxR.TabB X.base X.mg c P) (hcode : X.env.code = .ref c) (hi : PI X tg iter wi) (B : GBlk X scope own)
    (hg : ∀ (A : Around) (s : Shared) (H : Hp) (C : Addr) (cl : List (Str × Addr)) (code : Value) (fp : List Addr) (gp : List (Addr × Obj)), PG (gcx X A s H (genEnv scope cl C code builtinsNs X.env) fp gp) tg g)
    (ht : ∀ (A : Around) (s : Shared) (H : Hp) (C : Addr) (cl : List (Str × Addr)) (code : Value) (fp : List Addr) (gp : List (Addr × Obj)), Room k (A.deeper (genEnv scope cl C code builtinsNs X.env)) → PTs (gcx X A s H (genEnv scope cl C code builtinsNs X.env) fp gp) ifs tt)
    (hel : ∀ (A : Around) (s : Shared) (H : Hp) (C : Addr) (cl : List (Str × Addr)) (code : Value) (fp : List Addr) (gp : List (Addr × Obj)), Room k (A.deeper (genEnv scope cl C code builtinsNs X.env)) → PE (gcx X A s H (genEnv scope cl C code builtinsNs X.env) fp gp) elt te)
    (hs : ∀ v, genFold iter X.env v = pure v := by intro _; rfl) (hb : bootBuiltins "tuple" = some (.type "tuple") := by decide +kernel)
    (he : starEach [.GeneratorExp elt [⟨tg, iter, ifs, 0⟩] scope gpos] X.env = (false, eval (.GeneratorExp elt [⟨tg, iter, ifs, 0⟩] scope gpos) X.env) :: starEach [] X.env := by rfl) :
    PE X (.Call (.Name "tuple" p) [.GeneratorExp elt [⟨tg, iter, ifs, 0⟩] scope gpos] [] pos) (tTupG wi g tt te (own.map (·.2)) P) := by
  refine ⟨fun pins s σ H Q I h => ?_⟩
  refine wpAny_Call_Name_kw (ld_blt I hgl hm hb ?_)
  refine PyProof.Rows.callWith_type1 ?_ he (by rfl)
  rw [he]
  show wpAny _ _ (spliced ((false, eval (.GeneratorExp elt [⟨tg, iter, ifs, 0⟩] scope gpos) X.env) :: backTo pos (starEach [] X.env))) _ _ s
  refine Calls.spliced_cons (gen_make hr hN TB hcode hi B.ok B.nc B.co B.dot hg ht hel YItm.mono hs I h fun H2 sc fp u s5 I2 hex hM => ?_)
  refine Calls.spliced_nil ?_
  refine call_tuple_x (A := X.A) ⟨hr.hd, ?_, ?_⟩ I.ok.frames hM fun ys H' s' acc O r hle he => ?_
  · have := hr.dp
    show X.A.depth + 3 * (k + 1) + 5 < _
    omega
  · have := hr.un
    show X.A.units + 1 + 1 + 1 + 1 + 16 * (k + 1) + 200 < _
    omega
  · have J := back I2 hex O
    refine ⟨.ref s'.heap.objs.size, upd H' s'.heap.objs.size (.tup ys), ?_, rfl, he _ (O.hok.fresh (Nat.le_refl _))⟩
    exact J.laid (t' := s'.toks) (fun b o e => Heap.get?_push_of_some _ e) (Nat.le_refl _) ⟨hle, acc, r, IsTup.new s'.heap _⟩
end
end GE

set_option Elab.async false
set_option linter.all false
set_option maxRecDepth 100000
set_option maxHeartbeats 2000000
namespace GE
open PySem PySem.Spec PyProof.Rows L2
/-- a def whose code object stands at c -/
structure FunC (K : PySem.W.Frag) (x qual : Str) (st : Stmt) (f : Addr) (fd : FuncData) (c : Addr) : Prop where
  ex : ∃ (oc : Value) (od : Option Addr) (kV doc pm : Value) (an : Option Addr) (ct : Value) (osl : Array (Option Value)),
    fd = PySem.W.fnOf x qual (defArgs st) (defBody st) (defScope st) .none kV doc pm an (.ref c) ct ∧ K.lookup f = some ⟨oc, od, .func fd, osl⟩ ∧ PySem.W.codeIn K (.ref c) qual = true
  kp : PySem.W.keepIn K (.ref f) = true
section
variable {P : Program} {w : World} {K : PySem.W.Frag} {mg : Str → Option Value} {base : Heap}
theorem FunC.fun {x qual : Str} {st : Stmt} {f c : Addr} {fd : FuncData} (F : FunC K x qual st f fd c) : Fun K x qual st f fd := by
  obtain ⟨oc, od, kV, doc, pm, an, ct, osl, h1, h2, h3⟩ := F.ex
  exact ⟨⟨oc, od, kV, doc, pm, an, .ref c, ct, osl, h1, h2, h3⟩, F.kp⟩
theorem FunC.ok {x qual : Str} {st : Stmt} {f c : Addr} {fd : FuncData} {N ps : List Str} {k : Nat} {sp : Sp} (F : FunC K x qual st f fd c) (S : FnScope N ps (defScope st)) (len : ∀ vs H Q E, sp vs H Q E → vs.length = ps.length)
    (hbody : ∀ (A : Around) (outer : List Env) (s : Shared) (H : Hp) (vs : List V) (Q : VK) (E : XK), Room k (A.deeper (envOfC qual (defScope st) s.heap.objs.size f (.ref c))) → sp vs H Q E →
      ∃ t, PSs (cxOf CX0 P w K mg base N qual (defScope st) f (.ref c) A outer s H E).nox (defBody st) t ∧ t { nx := fun _ H' => Q .non H', rt := Q } (start N vs) H) : FnOk P w K mg base CX0 (k + 1) f fd ps sp := by
  obtain ⟨oc, od, kV, doc, pm, an, ct, osl, rfl, lk, hcd⟩ := F.ex
  refine fn_of lk hcd S len fun A outer s H vs Q E hr hsp => ?_
  obtain ⟨t, h, q⟩ := hbody A outer s H vs Q E hr hsp
  exact ⟨t, h.nox, q⟩
theorem funC_mk {x qual : Str} {st : Stmt} {f c : Addr} {oc : Value} {od an : Option Addr} {osl : Array (Option Value)} {kV doc pm ct : Value} (l : K.lookup f = some ⟨oc, od, .func (PySem.W.fnOf x qual (defArgs st) (defBody st) (defScope st) .none kV doc pm an (.ref c) ct), osl⟩)
    (cd : PySem.W.codeIn K (.ref c) qual = true) (k : PySem.W.keepIn K (.ref f) = true) : FunC K x qual st f (PySem.W.fnOf x qual (defArgs st) (defBody st) (defScope st) .none kV doc pm an (.ref c) ct) c := ⟨⟨oc, od, kV, doc, pm, an, ct, osl, rfl, l, cd⟩, k⟩
end
/-- the tables of the defs of the view -/
def TabsOf (q : Program) (K : PySem.W.Frag) (h : Heap) : Prop := ∀ (x : Str) (e : DefRec) (c P : Addr), (recsOf q).find? (fun e => e.name == x) = some e → PySem.W.tabIn K x = some (c, P) → PySem.W.CodeHd h c P ∧ h.get? P = some { cls := .none, data := .fields #[] }
theorem nT_of {K : PySem.W.Frag} {h : Heap} {P : Addr} (X : K.In h) (hK : PySem.W.noTabs K = true) (hP : h.get? P = some { cls := .none, data := .fields #[] }) : K.lookup P = none := by
  cases e : K.lookup P with
  | none => rfl
  | some o =>
    have e2 := X P o e
    rw [hP] at e2
    have h2 := List.all_eq_true.mp hK (P, o) (PySem.W.mem_of_lookupK e)
    cases e2
    exact absurd (show false = true from h2) Bool.false_ne_true
theorem walk_tab {l : PySem.W.OpenLaw} {n k : Nat} {q : Program} {loose : List Str} {XP : (Str → Option Value) → Heap → Prop} {YP : World → Heap → Prop} {d : DefRec} {K : Params → PySem.W.Frag} {CX : World → CXT} {x : Str}
    (hn : l.most = some n) (hn2 : n ≤ sizeLine) (hdf : d.params.defaults = []) (hr : Room k callerA) (hY : ∀ (w : World) (h : Heap), YP w h → (K w.params).In h)
    (F : ∀ (w : World) (mg : Str → Option Value) (fa : Addr) (h : Heap), (K w.params).In h → h.Ns mainGlobals mg → mg d.name = some (.ref fa) → TabsOf q (K w.params) h → LamX.LawAtS l w (K w.params) (CX w) k n x mg fa h)
    (hCX : ∀ (w : World) (H : Hp) (s : Shared) (e : Value) (s' : Shared), CX w [] H s (fun _ _ _ => False) e s' → False) :
    PySem.W.WalkO q loose XP YP l.row.toRowW d [] (fun f vs => PySem.call f vs) := by
  refine Att.attach_callB hn hdf fun w s₀ s₁ mg mb fa o pm cd doc a vs ns G Y ho hd hcd hmg hobj hints hlen hbits hg => ?_
  have KX := hY w _ Y
  obtain ⟨fd, cs, sp, hT, nT, C, hb, hsp, hF⟩ := F w mg fa _ KX G.T.g hmg fun x e c P h1 h2 => PySem.W.tab_of G.T KX h1 h2
  exact LamX.law_callTs KX G.T.g G.T.b G.T.builtins G.T.nolimit hg hT nT C G.T.bmain hobj hints (Nat.le_trans hlen hn2) hr hF hb (fun H hH hS => hsp H a ns hlen hbits hH hS) fun H e s' => hCX w H s₁ e s'
theorem tabB_of {base : Heap} {mg : Str → Option Value} {c P : Addr} (t : LamX.TabB base mg c P) : GxR.TabB base mg c P := ⟨t.code, t.bm, t.gP⟩

/-! ### what is kept -/
structure Ext (T : List Addr) (M : Addr → Prop) (H H' : Hp) : Prop where
  kp : ∀ b o, ¬ M b → H b = some o → (∀ ps, o ≠ .tbl ps) → H' b = some o
  tb : ∀ P ∈ T, GxR.TabG H P → GxR.TabG H' P
  fr : ∀ b, H' b = none → H b = none
abbrev noM : Addr → Prop := fun _ => False
section
variable {T : List Addr} {M : Addr → Prop} {H H' H1 H2 : Hp} {K : PySem.W.Frag}
theorem Ext.refl (T : List Addr) (M : Addr → Prop) (H : Hp) : Ext T M H H := ⟨fun _ _ _ e _ => e, fun _ _ h => h, fun _ h => h⟩
theorem Ext.trans (a : Ext T M H H1) (b : Ext T M H1 H2) : Ext T M H H2 := ⟨fun x o m e n => b.kp x o m (a.kp x o m e n) n, fun P hP h => b.tb P hP (a.tb P hP h), fun x h => a.fr x (b.fr x h)⟩
theorem Ext.weak (a : Ext T noM H H1) : Ext T M H H1 := ⟨fun x o _ e n => a.kp x o (fun z => z) e n, a.tb, a.fr⟩
theorem tabG_ne {P p : Addr} {o : HO} (h : GxR.TabG H P) (e : H p = some o) (n : ∀ ps, o ≠ .tbl ps) : P ≠ p := fun z => by
  obtain ⟨ps, hp, _⟩ := h
  rw [z, e] at hp
  exact n ps (Option.some.inj hp)
theorem Ext.new {p : Addr} {o : HO} (h : H p = none) : Ext T M H (upd H p o) := by
  refine ⟨fun b u _ e _ => ?_, fun P _ ⟨ps, hp, ht⟩ => ⟨ps, ?_, ht⟩, fun b e => ?_⟩
  · rw [upd_ne (ne_of_none e h)]; exact e
  · rw [upd_ne (ne_of_none hp h)]; exact hp
  · by_cases hb : b = p
    · rw [hb]; exact h
    · rw [upd_ne hb] at e; exact e
/-- a thing that was not there, or may change, is written -/
theorem Ext.mut {p : Addr} {o u : HO} (a : Ext T M H H') (h : H p = none ∨ M p) (e : H' p = some u) (n : ∀ ps, u ≠ .tbl ps) : Ext T M H (upd H' p o) := by
  refine ⟨fun b v m eb nb => ?_, fun P hP hg => ?_, fun b eb => ?_⟩
  · have hbp : b ≠ p := fun z => by
      rcases h with h | h
      · rw [z, h] at eb; cases eb
      · exact m (z ▸ h)
    rw [upd_ne hbp]; exact a.kp b v m eb nb
  · have hg' := a.tb P hP hg
    have hne := tabG_ne hg' e n
    obtain ⟨ps, hp, ht⟩ := hg'
    exact ⟨ps, by rw [upd_ne hne]; exact hp, ht⟩
  · by_cases hb : b = p
    · rw [hb, upd_same] at eb; cases eb
    · rw [upd_ne hb] at eb; exact a.fr b eb
theorem Ext.tab {P : Addr} (h : GxR.TabG H P) (t : GxR.Tabbed P H H') : Ext T M H H' := by
  obtain ⟨ps, hp, _⟩ := h
  refine ⟨fun b o _ e n => ?_, fun R _ hR => ?_, fun b e => ?_⟩
  · have hb : b ≠ P := fun z => by rw [z, hp] at e; exact n ps (Option.some.inj e).symm
    rw [t.2 b hb]; exact e
  · by_cases hb : R = P
    · rw [hb]; exact t.1
    · obtain ⟨qs, hq, hqt⟩ := hR
      exact ⟨qs, by rw [t.2 R hb]; exact hq, hqt⟩
  · by_cases hb : b = P
    · obtain ⟨qs, hq, _⟩ := t.1
      rw [hb, hq] at e; cases e
    · rw [t.2 b hb] at e; exact e
theorem Ext.lst {a : Addr} {xs : List V} (e : Ext T M H H') (m : ¬ M a) (h : H a = some (.lst xs)) : H' a = some (.lst xs) := e.kp a _ m h fun ps z => by cases z
theorem Ext.tup {a : Addr} {xs : List V} (e : Ext T M H H') (m : ¬ M a) (h : H a = some (.tup xs)) : H' a = some (.tup xs) := e.kp a _ m h fun ps z => by cases z
theorem Ext.l {a : Addr} {xs : List V} (e : Ext T M H H') (m : ¬ M a) (h : SqL K H a xs) : SqL K H' a xs := by
  rcases h with (h | ⟨o, h⟩) | h
  · exact .inl (.inl (e.lst m h))
  · exact .inl (.inr ⟨o, e.kp _ _ m h fun ps z => by cases z⟩)
  · exact .inr h
/-- the tables stand -/
def Wd (T : List Addr) (H : Hp) : Prop := ∀ P ∈ T, GxR.TabG H P
theorem Wd.ext (h : Wd T H) (e : Ext T M H H') : Wd T H' := fun P hP => e.tb P hP (h P hP)

/-! ### data -/
inductive D where
  | i (n : Int) | non | bl (b : Bool)
  | t (ds : List D)
mutual
def Rp (H : Hp) : D → V → Prop
  | .i n, v => v = .int n
  | .non, v => v = .non
  | .bl b, v => v = .bl b
  | .t ds, v => ∃ a vs, v = .ref a ∧ H a = some (.tup vs) ∧ RpL H ds vs
def RpL (H : Hp) : List D → List V → Prop
  | [], vs => vs = []
  | d :: ds, vs => ∃ v r, vs = v :: r ∧ Rp H d v ∧ RpL H ds r
end
theorem Rp.i {n : Int} {v : V} (h : Rp H (.i n) v) : v = .int n := by unfold Rp at h; exact h
theorem Rp.t {ds : List D} {v : V} (h : Rp H (.t ds) v) : ∃ a vs, v = .ref a ∧ H a = some (.tup vs) ∧ RpL H ds vs := by unfold Rp at h; exact h
theorem rp_i (n : Int) : Rp H (.i n) (.int n) := by unfold Rp; rfl
theorem rp_t {ds : List D} {a : Addr} {vs : List V} (h : H a = some (.tup vs)) (r : RpL H ds vs) : Rp H (.t ds) (.ref a) := by unfold Rp; exact ⟨a, vs, rfl, h, r⟩
theorem rpl_nil : RpL H [] [] := by unfold RpL; rfl
theorem rpl_cons {d : D} {ds : List D} {v : V} {vs : List V} (h : Rp H d v) (r : RpL H ds vs) : RpL H (d :: ds) (v :: vs) := by unfold RpL; exact ⟨v, vs, rfl, h, r⟩
theorem RpL.cons {d : D} {ds : List D} {vs : List V} (h : RpL H (d :: ds) vs) : ∃ v r, vs = v :: r ∧ Rp H d v ∧ RpL H ds r := by unfold RpL at h; exact h
theorem RpL.nil {vs : List V} (h : RpL H [] vs) : vs = [] := by unfold RpL at h; exact h
theorem RpL.len : ∀ {ds : List D} {vs : List V}, RpL H ds vs → vs.length = ds.length
  | [], vs, h => by rw [h.nil] <;> rfl
  | d :: ds, vs, h => by
    obtain ⟨v, r, rfl, _, h2⟩ := h.cons
    rw [List.length_cons, List.length_cons, RpL.len h2]
theorem RpL.get : ∀ {ds : List D} {vs : List V} {i : Nat} {d : D}, RpL H ds vs → ds[i]? = some d → ∃ v, vs[i]? = some v ∧ Rp H d v
  | [], vs, i, d, _, e => by simp at e
  | d :: ds, vs, 0, d', h, e => by
    obtain ⟨v, r, rfl, h1, _⟩ := h.cons
    simp at e
    exact ⟨v, rfl, e ▸ h1⟩
  | d :: ds, vs, i + 1, d', h, e => by
    obtain ⟨v, r, rfl, _, h2⟩ := h.cons
    obtain ⟨u, e1, e2⟩ := RpL.get (i := i) h2 (by simpa using e)
    exact ⟨u, by simpa using e1, e2⟩
theorem RpL.snoc : ∀ {ds : List D} {vs : List V} {d : D} {v : V}, RpL H ds vs → Rp H d v → RpL H (ds ++ [d]) (vs ++ [v])
  | [], vs, d, v, h, hv => by rw [h.nil]; exact rpl_cons hv rpl_nil
  | e :: ds, vs, d, v, h, hv => by
    obtain ⟨u, r, rfl, h1, h2⟩ := h.cons
    exact rpl_cons h1 (RpL.snoc h2 hv)
theorem RpL.take : ∀ {ds : List D} {vs : List V} (n : Nat), RpL H ds vs → RpL H (ds.take n) (vs.take n)
  | ds, vs, 0, h => by simp; exact rpl_nil
  | [], vs, n + 1, h => by rw [h.nil]; exact rpl_nil
  | d :: ds, vs, n + 1, h => by
    obtain ⟨u, r, rfl, h1, h2⟩ := h.cons
    exact rpl_cons h1 (RpL.take n h2)
theorem RpL.drop : ∀ {ds : List D} {vs : List V} (n : Nat), RpL H ds vs → RpL H (ds.drop n) (vs.drop n)
  | ds, vs, 0, h => by simpa using h
  | [], vs, n + 1, h => by rw [h.nil]; exact rpl_nil
  | d :: ds, vs, n + 1, h => by
    obtain ⟨u, r, rfl, h1, h2⟩ := h.cons
    exact RpL.drop n h2
theorem RpL.append : ∀ {ds es : List D} {vs ws : List V}, RpL H ds vs → RpL H es ws → RpL H (ds ++ es) (vs ++ ws)
  | [], es, vs, ws, h, g => by rw [h.nil]; exact g
  | e :: ds, es, vs, ws, h, g => by
    obtain ⟨u, r, rfl, h1, h2⟩ := h.cons
    exact rpl_cons h1 (RpL.append h2 g)
theorem rpl_ints : ∀ (ns : List Int), RpL H (ns.map D.i) (ns.map V.int)
  | [] => rpl_nil
  | n :: r => rpl_cons (rp_i n) (rpl_ints r)
theorem RpL.ints : ∀ {ns : List Int} {vs : List V}, RpL H (ns.map D.i) vs → vs = ns.map V.int
  | [], vs, h => h.nil
  | n :: r, vs, h => by
    obtain ⟨v, s, rfl, h1, h2⟩ := h.cons
    rw [h1.i, RpL.ints h2]; rfl
mutual
theorem Rp.ext (e : Ext T M H H') (hM : ∀ b vs, M b → H b ≠ some (.tup vs)) : ∀ {d : D} {v : V}, Rp H d v → Rp H' d v
  | .i n, v, h => by rw [h.i]; exact rp_i n
  | .non, v, h => by unfold Rp at h ⊢; exact h
  | .bl b, v, h => by unfold Rp at h ⊢; exact h
  | .t ds, v, h => by
    obtain ⟨a, vs, rfl, h1, h2⟩ := h.t
    exact rp_t (e.tup (fun m => hM a vs m h1) h1) (RpL.ext e hM h2)
theorem RpL.ext (e : Ext T M H H') (hM : ∀ b vs, M b → H b ≠ some (.tup vs)) : ∀ {ds : List D} {vs : List V}, RpL H ds vs → RpL H' ds vs
  | [], vs, h => by rw [h.nil]; exact rpl_nil
  | d :: ds, vs, h => by
    obtain ⟨v, r, rfl, h1, h2⟩ := h.cons
    exact rpl_cons (Rp.ext e hM h1) (RpL.ext e hM h2)
end
theorem Rp.x (e : Ext T noM H H') {d : D} {v : V} (h : Rp H d v) : Rp H' d v := h.ext e fun _ _ m => m.elim
theorem RpL.x (e : Ext T noM H H') {ds : List D} {vs : List V} (h : RpL H ds vs) : RpL H' ds vs := h.ext e fun _ _ m => m.elim
end
end GE

set_option Elab.async false
set_option linter.all false
set_option maxRecDepth 100000
set_option maxHeartbeats 4000000

namespace Mw
open PySem PySem.Spec PyProof.Rows L2 GE
def top (i : Nat) : Stmt := PySem.Challenge.pw_moatways_k29_scaled_tasks_with_fines.main.body.getD i (.Pass ⟨0, 0, 0, 0⟩)
abbrev sratio : Stmt := top 3
theorem scratio : FnScope ["top", "bottom", "shared"] ["top", "bottom"] (defScope sratio) := ⟨rfl, rfl, rfl, by decide +kernel, rfl, by decide +kernel, by decide +kernel⟩
abbrev splus : Stmt := top 4
theorem scplus : FnScope ["first", "second"] ["first", "second"] (defScope splus) := ⟨rfl, rfl, rfl, by decide +kernel, rfl, by decide +kernel, by decide +kernel⟩
abbrev sminus : Stmt := top 5
theorem scminus : FnScope ["first", "second"] ["first", "second"] (defScope sminus) := ⟨rfl, rfl, rfl, by decide +kernel, rfl, by decide +kernel, by decide +kernel⟩
abbrev sless : Stmt := top 6
theorem scless : FnScope ["first", "second"] ["first", "second"] (defScope sless) := ⟨rfl, rfl, rfl, by decide +kernel, rfl, by decide +kernel, by decide +kernel⟩
abbrev sField___init__ : Stmt := inClass (top 8) 0
theorem scField___init__ : FnScope ["self", "net", "places", "ways", "place"] ["self", "net"] (defScope sField___init__) := ⟨rfl, rfl, rfl, by decide +kernel, rfl, by decide +kernel, by decide +kernel⟩
abbrev sField_groups_now : Stmt := inClass (top 8) 1
theorem scField_groups_now : FnScope ["self", "place", "home"] ["self"] (defScope sField_groups_now) := ⟨rfl, rfl, rfl, by decide +kernel, rfl, by decide +kernel, by decide +kernel⟩
abbrev sField_grow : Stmt := inClass (top 8) 2
theorem scField_grow : FnScope ["self", "rising", "span", "group", "place"] ["self", "rising", "span"] (defScope sField_grow) := ⟨rfl, rfl, rfl, by decide +kernel, rfl, by decide +kernel, by decide +kernel⟩
abbrev sField_span_until_full : Stmt := inClass (top 8) 3
theorem scField_span_until_full : FnScope ["self", "rising", "best", "a", "b", "cost", "speed", "group", "slack", "span"] ["self", "rising"] (defScope sField_span_until_full) := ⟨rfl, rfl, rfl, by decide +kernel, rfl, by decide +kernel, by decide +kernel⟩
abbrev sField_take_full_ways : Stmt := inClass (top 8) 4
theorem scField_take_full_ways : FnScope ["self", "born", "way"] ["self"] (defScope sField_take_full_ways) := ⟨rfl, rfl, rfl, by decide +kernel, rfl, by decide +kernel, by decide +kernel⟩
abbrev sField_paper : Stmt := inClass (top 8) 5
theorem scField_paper : FnScope ["self", "places"] ["self"] (defScope sField_paper) := ⟨rfl, rfl, rfl, by decide +kernel, rfl, by decide +kernel, by decide +kernel⟩
abbrev sField__ways_between : Stmt := inClass (top 8) 6
theorem scField__ways_between : FnScope ["self", "way"] ["self"] (defScope sField__ways_between) := ⟨rfl, rfl, rfl, by decide +kernel, rfl, by decide +kernel, by decide +kernel⟩
abbrev sField__first_full_way : Stmt := inClass (top 8) 7
theorem scField__first_full_way : FnScope ["self", "way", "a", "b", "cost"] ["self"] (defScope sField__first_full_way) := ⟨rfl, rfl, rfl, by decide +kernel, rfl, by decide +kernel, by decide +kernel⟩
abbrev sField__slack : Stmt := inClass (top 8) 8
theorem scField__slack : FnScope ["self", "a", "b", "cost"] ["self", "a", "b", "cost"] (defScope sField__slack) := ⟨rfl, rfl, rfl, by decide +kernel, rfl, by decide +kernel, by decide +kernel⟩
abbrev sField__take : Stmt := inClass (top 8) 9
theorem scField__take : FnScope ["self", "way", "a", "b", "_", "joined", "place"] ["self", "way"] (defScope sField__take) := ⟨rfl, rfl, rfl, by decide +kernel, rfl, by decide +kernel, by decide +kernel⟩
abbrev sgroups : Stmt := top 10
theorem scgroups : FnScope ["net", "choice", "found", "place", "home", "group"] ["net", "choice"] (defScope sgroups) := ⟨rfl, rfl, rfl, by decide +kernel, rfl, by decide +kernel, by decide +kernel⟩
abbrev s_homes : Stmt := top 11
theorem sc_homes : FnScope ["net", "choice", "places", "ways", "homes", "way", "a", "b", "_", "low", "high", "home"] ["net", "choice"] (defScope s_homes) := ⟨rfl, rfl, rfl, by decide +kernel, rfl, by decide +kernel, by decide +kernel⟩
abbrev sworth : Stmt := top 13
theorem scworth : FnScope ["paper", "total", "moat"] ["paper"] (defScope sworth) := ⟨rfl, rfl, rfl, by decide +kernel, rfl, by decide +kernel, by decide +kernel⟩
abbrev srest_of_fines : Stmt := top 14
theorem screst_of_fines : FnScope ["fines", "places", "paper", "inner", "moat", "place"] ["fines", "places", "paper"] (defScope srest_of_fines) := ⟨rfl, rfl, rfl, by decide +kernel, rfl, by decide +kernel, by decide +kernel⟩
abbrev s_lies_within : Stmt := top 15
theorem sc_lies_within : FnScope ["inner", "outer", "place"] ["inner", "outer"] (defScope s_lies_within) := ⟨rfl, rfl, rfl, by decide +kernel, rfl, by decide +kernel, by decide +kernel⟩
abbrev sreach : Stmt := top 17
theorem screach : FnScope ["net", "root", "fines", "grown", "home", "taken", "_", "way", "kept", "choice"] ["net", "root", "fines"] (defScope sreach) := ⟨rfl, rfl, rfl, by decide +kernel, rfl, by decide +kernel, by decide +kernel⟩
abbrev sfine_moats : Stmt := top 18
theorem scfine_moats : FnScope ["net", "root", "fines"] ["net", "root", "fines"] (defScope sfine_moats) := ⟨rfl, rfl, rfl, by decide +kernel, rfl, by decide +kernel, by decide +kernel⟩
abbrev sFineGrowth___init__ : Stmt := inClass (top 19) 0
theorem scFineGrowth___init__ : FnScope ["self", "net", "root", "fines", "awake"] ["self", "net", "root", "fines"] (defScope sFineGrowth___init__) := ⟨rfl, rfl, rfl, by decide +kernel, rfl, by decide +kernel, by decide +kernel⟩
abbrev sFineGrowth__take_and_note : Stmt := inClass (top 19) 1
theorem scFineGrowth__take_and_note : FnScope ["self"] ["self"] (defScope sFineGrowth__take_and_note) := ⟨rfl, rfl, rfl, by decide +kernel, rfl, by decide +kernel, by decide +kernel⟩
abbrev sFineGrowth__note : Stmt := inClass (top 19) 2
theorem scFineGrowth__note : FnScope ["self", "found", "group", "tight"] ["self", "found"] (defScope sFineGrowth__note) := ⟨rfl, rfl, rfl, by decide +kernel, rfl, by decide +kernel, by decide +kernel⟩
abbrev sFineGrowth__awake_groups : Stmt := inClass (top 19) 3
theorem scFineGrowth__awake_groups : FnScope ["self", "group"] ["self"] (defScope sFineGrowth__awake_groups) := ⟨rfl, rfl, rfl, by decide +kernel, rfl, by decide +kernel, by decide +kernel⟩
abbrev sFineGrowth__rest : Stmt := inClass (top 19) 4
theorem scFineGrowth__rest : FnScope ["self", "group"] ["self", "group"] (defScope sFineGrowth__rest) := ⟨rfl, rfl, rfl, by decide +kernel, rfl, by decide +kernel, by decide +kernel⟩
abbrev sFineGrowth__span_until_change : Stmt := inClass (top 19) 5
theorem scFineGrowth__span_until_change : FnScope ["self", "awake", "best", "group", "rest"] ["self", "awake"] (defScope sFineGrowth__span_until_change) := ⟨rfl, rfl, rfl, by decide +kernel, rfl, by decide +kernel, by decide +kernel⟩
abbrev s_cut_off : Stmt := top 20
theorem sc_cut_off : FnScope ["net", "notes", "kept", "left", "group", "way"] ["net", "notes", "kept"] (defScope s_cut_off) := ⟨rfl, rfl, rfl, by decide +kernel, rfl, by decide +kernel, by decide +kernel⟩
abbrev s_first_to_cut : Stmt := top 21
theorem sc_first_to_cut : FnScope ["net", "notes", "kept", "group", "way"] ["net", "notes", "kept"] (defScope s_first_to_cut) := ⟨rfl, rfl, rfl, by decide +kernel, rfl, by decide +kernel, by decide +kernel⟩
abbrev s_ends_within : Stmt := top 22
theorem sc_ends_within : FnScope ["net", "way", "places", "a", "b", "_", "end"] ["net", "way", "places"] (defScope s_ends_within) := ⟨rfl, rfl, rfl, by decide +kernel, rfl, by decide +kernel, by decide +kernel⟩
abbrev s_left : Stmt := top 23
theorem sc_left : FnScope ["net", "root", "choice", "home", "place"] ["net", "root", "choice"] (defScope s_left) := ⟨rfl, rfl, rfl, by decide +kernel, rfl, by decide +kernel, by decide +kernel⟩
abbrev s_group_of : Stmt := top 24
theorem sc_group_of : FnScope ["place", "found", "group"] ["place", "found"] (defScope s_group_of) := ⟨rfl, rfl, rfl, by decide +kernel, rfl, by decide +kernel, by decide +kernel⟩
abbrev s_law_pool : Stmt := top 26
theorem sc_law_pool : FnScope ["script"] ["script"] (defScope s_law_pool) := ⟨rfl, rfl, rfl, by decide +kernel, rfl, by decide +kernel, by decide +kernel⟩
abbrev s_law_draw : Stmt := top 27
theorem sc_law_draw : FnScope ["pool", "many", "found", "cell", "mixed"] ["pool", "many"] (defScope s_law_draw) := ⟨rfl, rfl, rfl, by decide +kernel, rfl, by decide +kernel, by decide +kernel⟩
abbrev s_law_pick : Stmt := top 28
theorem sc_law_pick : FnScope ["pool", "rows"] ["pool", "rows"] (defScope s_law_pick) := ⟨rfl, rfl, rfl, by decide +kernel, rfl, by decide +kernel, by decide +kernel⟩
abbrev s_law_gcd : Stmt := top 29
theorem sc_law_gcd : FnScope ["a", "b", "k"] ["a", "b"] (defScope s_law_gcd) := ⟨rfl, rfl, rfl, by decide +kernel, rfl, by decide +kernel, by decide +kernel⟩
abbrev s_law_ratio : Stmt := top 30
theorem sc_law_ratio : FnScope ["top", "bottom", "common"] ["top", "bottom"] (defScope s_law_ratio) := ⟨rfl, rfl, rfl, by decide +kernel, rfl, by decide +kernel, by decide +kernel⟩
abbrev s_law_times : Stmt := top 31
theorem sc_law_times : FnScope ["a", "b"] ["a", "b"] (defScope s_law_times) := ⟨rfl, rfl, rfl, by decide +kernel, rfl, by decide +kernel, by decide +kernel⟩
abbrev s_law_same : Stmt := top 32
theorem sc_law_same : FnScope ["actual", "due", "k"] ["actual", "due"] (defScope s_law_same) := ⟨rfl, rfl, rfl, by decide +kernel, rfl, by decide +kernel, by decide +kernel⟩
abbrev s_law_cost : Stmt := top 33
theorem sc_law_cost : FnScope ["pool", "pick"] ["pool"] (defScope s_law_cost) := ⟨rfl, rfl, rfl, by decide +kernel, rfl, by decide +kernel, by decide +kernel⟩
abbrev s_law_way : Stmt := top 34
theorem sc_law_way : FnScope ["pool", "places", "a"] ["pool", "places"] (defScope s_law_way) := ⟨rfl, rfl, rfl, by decide +kernel, rfl, by decide +kernel, by decide +kernel⟩
abbrev s_law_net : Stmt := top 35
theorem sc_law_net : FnScope ["pool", "most", "ways", "places", "found", "place", "k"] ["pool", "most", "ways"] (defScope s_law_net) := ⟨rfl, rfl, rfl, by decide +kernel, rfl, by decide +kernel, by decide +kernel⟩
abbrev s_law_fine_task : Stmt := top 36
theorem sc_law_fine_task : FnScope ["pool", "most", "ways", "net", "fines", "place"] ["pool", "most", "ways"] (defScope s_law_fine_task) := ⟨rfl, rfl, rfl, by decide +kernel, rfl, by decide +kernel, by decide +kernel⟩
abbrev s_law_any_fine_task : Stmt := top 37
theorem sc_law_any_fine_task : FnScope ["pool"] ["pool"] (defScope s_law_any_fine_task) := ⟨rfl, rfl, rfl, by decide +kernel, rfl, by decide +kernel, by decide +kernel⟩
abbrev slaw : Stmt := top 38
theorem sclaw : FnScope ["script", "pool", "drawn", "root", "rows", "net", "way", "fines", "fine", "many", "greater", "more", "paper", "part", "width", "other"] ["script"] (defScope slaw) := ⟨rfl, rfl, rfl, by decide +kernel, rfl, by decide +kernel, by decide +kernel⟩
/-! ### the pool -/
def PoolAt (H : Hp) (p s : Addr) : Prop := ∃ (ns : List Int) (i1 i2 i3 i4 : Int), H p = some (.lst [.ref s, .int i1, .int i2, .int i3, .int i4]) ∧ H s = some (.lst (ns.map V.int)) ∧ ns.length ≤ 63 ∧ 0 ≤ i1 ∧ 0 ≤ i2
abbrev atP (p : Addr) : Addr → Prop := fun b => b = p
theorem PoolAt.tup {H : Hp} {p s : Addr} (h : PoolAt H p s) : ∀ b vs, atP p b → H b ≠ some (.tup vs) := fun b vs e z => by
  obtain ⟨ns, i1, i2, i3, i4, hp, _⟩ := h
  rw [show b = p from e, hp] at z
  cases z
theorem PoolAt.keep {T : List Addr} {H H' : Hp} {p s : Addr} (h : PoolAt H p s) (e : Ext T noM H H') : PoolAt H' p s := by
  obtain ⟨ns, i1, i2, i3, i4, hp, hs, hl, h1, h2⟩ := h
  exact ⟨ns, i1, i2, i3, i4, e.lst (fun z => z) hp, e.lst (fun z => z) hs, hl, h1, h2⟩
theorem Rp.p {T : List Addr} {H H' : Hp} {p s : Addr} {d : D} {v : V} (h : Rp H d v) (hp : PoolAt H p s) (e : Ext T (atP p) H H') : Rp H' d v := h.ext e hp.tup
theorem ltbl {xs : List V} : ∀ ps, HO.lst xs ≠ .tbl ps := fun ps z => by cases z
theorem PoolAt.upd {H : Hp} {p s l : Addr} {o : HO} (h : PoolAt H p s) (h1 : l ≠ p) (h2 : l ≠ s) : PoolAt (upd H l o) p s := by
  obtain ⟨ns, i1, i2, i3, i4, hp, hs, r⟩ := h
  exact ⟨ns, i1, i2, i3, i4, by rw [upd_ne (Ne.symm h1)]; exact hp, by rw [upd_ne (Ne.symm h2)]; exact hs, r⟩
theorem PoolAt.ne {H : Hp} {p s l : Addr} (h : PoolAt H p s) (e : H l = none) : l ≠ p ∧ l ≠ s := by
  obtain ⟨ns, i1, i2, i3, i4, hp, hs, r⟩ := h
  exact ⟨fun z => (by rw [z, hp] at e; cases e), fun z => (by rw [z, hs] at e; cases e)⟩
theorem rpl_upd {H : Hp} {l : Addr} {xs : List V} {o : HO} {ds : List D} {vs : List V} (h : RpL H ds vs) (hl : H l = some (.lst xs)) : RpL (upd H l o) ds vs :=
  h.ext (T := []) ((Ext.refl [] (atP l) H).mut (.inr rfl) hl fun ps z => by cases z) fun b vs e z => by rw [show b = l from e, hl] at z; cases z
theorem rp_upd {H : Hp} {l : Addr} {xs : List V} {o : HO} {d : D} {v : V} (h : Rp H d v) (hl : H l = some (.lst xs)) : Rp (upd H l o) d v :=
  h.ext (T := []) ((Ext.refl [] (atP l) H).mut (.inr rfl) hl fun ps z => by cases z) fun b vs e z => by rw [show b = l from e, hl] at z; cases z
theorem RpL.p {T : List Addr} {H H' : Hp} {p s : Addr} {d : List D} {v : List V} (h : RpL H d v) (hp : PoolAt H p s) (e : Ext T (atP p) H H') : RpL H' d v := h.ext e hp.tup
def spPool (K : PySem.W.Frag) (T : List Addr) : Sp := fun vs H Q _ => ∃ (a : Addr) (ns : List Int), vs = [.ref a] ∧ SqL K H a (ns.map V.int) ∧ ns.length ≤ 63 ∧ ∀ p s H', H p = none → H s = none → PoolAt H' p s → Ext T noM H H' → Q (.ref p) H'
def spDraw (T : List Addr) : Sp := fun vs H Q _ => ∃ (p s : Addr) (many : Int), vs = [.ref p, .int many] ∧ PoolAt H p s ∧ 1 ≤ many ∧ many < 1073741824 ∧ ∀ r H', 0 ≤ r → r < many → PoolAt H' p s → Ext T (atP p) H H' → Q (.int r) H'
def spPick (T : List Addr) : Sp := fun vs H Q _ => ∃ (p s a : Addr) (xs : List V), vs = [.ref p, .ref a] ∧ PoolAt H p s ∧ H a = some (.lst xs) ∧ a ≠ p ∧ 1 ≤ xs.length ∧ xs.length ≤ 1000 ∧ ∀ v H', v ∈ xs → PoolAt H' p s → Ext T (atP p) H H' → Q v H'
def spCost (T : List Addr) : Sp := fun vs H Q _ => ∃ (p s : Addr), vs = [.ref p] ∧ PoolAt H p s ∧ ∀ r H', 1 ≤ r → r ≤ 10000 → PoolAt H' p s → Ext T (atP p) H H' → Q (.int r) H'
section
variable {P : Program} {w : World} {K : PySem.W.Frag} {mg : Str → Option Value} {base : Heap} {T : List Addr}
theorem pool_upd {H : Hp} {p s : Addr} {ns : List Int} {i1 i2 i3 i4 j1 j2 j3 j4 : Int} (hp : H p = some (.lst [.ref s, .int i1, .int i2, .int i3, .int i4])) (hs : H s = some (.lst (ns.map V.int))) (hl : ns.length ≤ 63) (h1 : 0 ≤ j1) (h2 : 0 ≤ j2) :
    PoolAt (upd H p (.lst [.ref s, .int j1, .int j2, .int j3, .int j4])) p s ∧ Ext T (atP p) H (upd H p (.lst [.ref s, .int j1, .int j2, .int j3, .int j4])) := by
  have hsp : s ≠ p := fun z => by
    rw [z, hp] at hs
    have e := HO.lst.inj (Option.some.inj hs)
    cases ns with
    | nil => cases e
    | cons x r => cases e
  exact ⟨⟨ns, j1, j2, j3, j4, upd_same, by rw [upd_ne hsp]; exact hs, hl, h1, h2⟩, (Ext.refl T _ H).mut (.inr rfl) hp fun ps z => by cases z⟩
theorem ok__law_pool {f : Addr} {fd : FuncData} (F : Fun K "_law_pool" "_law_pool" s_law_pool f fd) (m_list : mg "list" = none) : FnOk P w K mg base CX0 1 f fd ["script"] (spPool K T) := by
  refine F.ok sc_law_pool (fun vs H Q E h => ?_) (fun cdv A outer s H vs Q E hr h => ?_)
  · obtain ⟨a, ns, rfl, hS, hlen, k⟩ := h
    rfl
  · obtain ⟨a, ns, rfl, hS, hlen, k⟩ := h
    refine ⟨_, (pss_one (ps_ret (pe_lst (pa_cons (pe_callTy call_list_of (by rfl) m_list (by decide +kernel) (pa_cons (pv 0) pa_nil)) (pa_cons pe_int (pa_cons pe_int (pa_cons pe_int (pa_cons pe_int pa_nil)))))))), ?_⟩
    refine ⟨_, rfl, a, _, rfl, .inl hS, fun l hl => ?_⟩
    refine ⟨by show 5 ≤ sizeLine; decide, fun p hp => ?_⟩
    have hlp : l ≠ p := fun z => by rw [← z, upd_same] at hp; cases hp
    have hpH : H p = none := by rw [upd_ne (Ne.symm hlp)] at hp; exact hp
    exact k p l _ hpH hl ⟨ns, 0, 0, 0, 0, upd_same, by rw [upd_ne hlp, upd_same], hlen, by omega, by omega⟩ ((Ext.new hl).trans (Ext.new hp))
theorem ok__law_draw {f : Addr} {fd : FuncData} (F : Fun K "_law_draw" "_law_draw" s_law_draw f fd) (m_abs : mg "abs" = none) (m_int : mg "int" = none) (m_len : mg "len" = none) : FnOk P w K mg base CX0 1 f fd ["pool", "many"] (spDraw T) := by
  refine F.ok sc_law_draw (fun vs H Q E h => ?_) (fun cdv A outer s H vs Q E hr h => ?_)
  · obtain ⟨p, s, many, rfl, hP, hm1, hm2, k⟩ := h
    rfl
  · obtain ⟨p, s, many, rfl, hP, hm1, hm2, k⟩ := h
    refine ⟨_, (pss_cons (ps_if (pt_cmpR op_gt (pe_ix ix_list (pv 0) pe_int (fun _ _ => rfl)) pe_int (nomark _)) (pss_cons (ps_set (i := 2) sc_law_draw.nd rfl (Or.inl rfl) (pe_op op_mod (pe_callTy call_int1 (by rfl) m_int (by decide +kernel) (pa_cons (pe_ix ix_list (pv 0) pe_int (fun _ _ => rfl)) pa_nil)) (pv 1)))
      (pss_cons (ps_asg (pe_op op_fdivN (pe_ix ix_list (pv 0) pe_int (fun _ _ => rfl)) (pv 1)) (pg_sub (pv 0) pe_int set_list))
      (pss_one (ps_ret (pv 2))))) pss_nil)
      (Evl.pss_cut (ps_if (PW.pt (pw_and (pt_cmpR op_eq (pe_op op_mod (pe_callTy call_int1 (by rfl) m_int (by decide +kernel) (pa_cons (pe_ix ix_list (pv 0) pe_int (fun _ _ => rfl)) pa_nil)) pe_int) pe_int (nomark _)) (pw_and1 (pt_cmpR op_lt (pe_ix ix_list (pv 0) pe_int (fun _ _ => rfl)) (pe_callB call_len_seq (by rfl) m_len PySem.boot_len (pa_cons (pe_ix ix_list (pv 0) pe_int (fun _ _ => rfl)) pa_nil)) (nomark _))))) (pss_cons (ps_set (i := 3) sc_law_draw.nd rfl (Or.inl rfl) (pe_callB call_abs (by rfl) m_abs (by decide +kernel) (pa_cons (pe_ix ix_list (pe_ix ix_list (pv 0) pe_int (fun _ _ => rfl)) (pe_ix ix_list (pv 0) pe_int (fun _ _ => rfl)) (fun _ _ => rfl)) pa_nil)))
      (pss_cons (ps_asg (pe_op op_add (pe_ix ix_list (pv 0) pe_int (fun _ _ => rfl)) pe_int) (pg_sub (pv 0) pe_int set_list))
      (pss_cons (ps_if (pt_cmpR op_ge (pv 3) (pe_op op_pow pe_int pe_int) (nomark _)) (pss_cons (ps_asg (pe_op op_fdivN (pv 3) (pv 1)) (pg_sub (pv 0) pe_int set_list))
      (pss_one (ps_ret (pe_op op_mod (pe_callTy call_int1 (by rfl) m_int (by decide +kernel) (pa_cons (pv 3) pa_nil)) (pv 1))))) pss_nil)
      (pss_one (ps_asg (pv 3) (pg_sub (pv 0) pe_int set_list)))))) pss_nil)
      (pss_cons (ps_asg (pe_op op_add (pe_ix ix_list (pv 0) pe_int (fun _ _ => rfl)) pe_int) (pg_sub (pv 0) pe_int set_list))
      (pss_cons (ps_set (i := 4) sc_law_draw.nd rfl (Or.inl rfl) (pe_op op_mod (pe_callTy call_int1 (by rfl) m_int (by decide +kernel) (pa_cons (pe_op op_add (pe_op op_add (pe_op op_mul (pe_ix ix_list (pv 0) pe_int (fun _ _ => rfl)) pe_int) (pe_op op_mul (pe_ix ix_list (pv 0) pe_int (fun _ _ => rfl)) pe_int)) pe_int) pa_nil)) pe_int))
      (pss_cons (ps_set (i := 4) sc_law_draw.nd rfl (Or.inl rfl) (pe_op op_mod (pe_callTy call_int1 (by rfl) m_int (by decide +kernel) (pa_cons (pe_op op_add (pe_op op_mul (pv 4) (pv 4)) (pe_op op_mul (pe_ix ix_list (pv 0) pe_int (fun _ _ => rfl)) pe_int)) pa_nil)) pe_int))
      (pss_one (ps_ret (pe_op op_mod (pe_callTy call_int1 (by rfl) m_int (by decide +kernel) (pa_cons (pv 4) pa_nil)) (pv 1))))))))), ?_⟩
    obtain ⟨ns, i1, i2, i3, i4, hp, hs, hl, h1, h2⟩ := hP
    have hm0 : (0 : Int) < many := by omega
    have hmod : ∀ z : Int, 0 ≤ z % many ∧ z % many < many := fun z => ⟨Int.emod_nonneg _ (by omega), Int.emod_lt_of_pos _ hm0⟩
    have hsp : s ≠ p := fun z => by
      rw [z, hp] at hs
      have e := HO.lst.inj (Option.some.inj hs)
      cases ns with
      | nil => cases e
      | cons x r => cases e
    refine ⟨_, rfl, p, _, _, _, rfl, rfl, SqL.of hp, at_of (j := 2) rfl rfl, _, _, rfl, rfl, _, rfl, ?_⟩
    refine ite2 (fun c => ?_) (fun c => ?_)
    · have c' : i2 > 0 := of_decide_eq_true c
      refine ⟨_, rfl, p, _, _, _, rfl, rfl, SqL.of hp, at_of (j := 2) rfl rfl, .inl ⟨_, rfl, _, rfl, _, _, rfl, rfl, hm0, ?_⟩⟩
      refine ⟨_, rfl, p, _, _, _, rfl, rfl, SqL.of hp, at_of (j := 2) rfl rfl, _, rfl, _, _, rfl, rfl, ⟨by omega, by omega⟩, _, rfl, p, _, _, 2, rfl, rfl, hp, rfl, ?_⟩
      obtain ⟨g1, g2⟩ := pool_upd (T := T) (j1 := i1) (j2 := i2.fdiv many) (j3 := i3) (j4 := i4) hp hs hl h1 (by rw [Int.fdiv_eq_ediv_of_nonneg _ (by omega)]; exact Int.ediv_nonneg h2 (by omega))
      exact ⟨_, rfl, k _ _ (hmod _).1 (hmod _).2 g1 g2⟩
    · refine ⟨fun σ' H' => ∃ y2 y3 y4, σ' = [some (.ref p), some (.int many), y2, y3, y4] ∧ PoolAt H' p s ∧ Ext T (atP p) H H', ?_, ?_⟩
      · refine ⟨_, rfl, p, _, _, _, rfl, rfl, SqL.of hp, at_of (j := 4) rfl rfl, .inl ⟨_, rfl, _, _, rfl, rfl, (by show (0 : Int) < 8; decide), rfl, _, rfl, ?_⟩⟩
        have stay : ∃ y2 y3 y4, [some (V.ref p), some (V.int many), none, none, none] = [some (V.ref p), some (V.int many), y2, y3, y4] ∧ PoolAt H p s ∧ Ext T (atP p) H H := ⟨none, none, none, rfl, ⟨ns, i1, i2, i3, i4, hp, hs, hl, h1, h2⟩, Ext.refl T _ H⟩
        refine ite2 (fun c1 => ?_) (fun c1 => iteF stay)
        refine ⟨_, rfl, p, _, _, _, rfl, rfl, SqL.of hp, at_of (j := 1) rfl rfl, _, rfl, p, _, _, _, rfl, rfl, SqL.of hp, at_of (j := 0) rfl rfl, s, _, rfl, .inl (SqL.of hs), _, _, rfl, rfl, _, rfl, ?_⟩
        refine ite2 (fun c2 => ?_) (fun c2 => stay)
        have c2' : i1 < ((ns.map V.int).length : Int) := of_decide_eq_true c2
        rw [List.length_map] at c2'
        have hj : i1.toNat < ns.length := by omega
        have ga : atI (ns.map V.int) i1 = some (.int ns[i1.toNat]) := at_of (j := i1.toNat) (by omega) (by rw [List.getElem?_map, List.getElem?_eq_getElem hj]; rfl)
        -- cell = abs(pool[0][pool[1]])
        refine ⟨_, rfl, p, _, _, _, rfl, rfl, SqL.of hp, at_of (j := 0) rfl rfl, _, rfl, p, _, _, _, rfl, rfl, SqL.of hp, at_of (j := 1) rfl rfl, s, _, _, _, rfl, rfl, SqL.of hs, ga, _, rfl, ?_⟩
        generalize hz : (if ns[i1.toNat] < 0 then -ns[i1.toNat] else ns[i1.toNat]) = z
        have z0 : 0 ≤ z := by rw [← hz]; split <;> omega
        -- pool[1] = pool[1] + 1
        refine ⟨_, rfl, p, _, _, _, rfl, rfl, SqL.of hp, at_of (j := 1) rfl rfl, _, _, rfl, rfl, _, rfl, p, _, _, 1, rfl, rfl, hp, rfl, ?_⟩
        obtain ⟨g1, g2⟩ := pool_upd (T := T) (j1 := i1 + 1) (j2 := i2) (j3 := i3) (j4 := i4) hp hs hl (by omega) h2
        have hp1 : (upd H p (.lst [.ref s, .int (i1 + 1), .int i2, .int i3, .int i4])) p = some (.lst [.ref s, .int (i1 + 1), .int i2, .int i3, .int i4]) := upd_same
        have hs1 : (upd H p (.lst [.ref s, .int (i1 + 1), .int i2, .int i3, .int i4])) s = some (.lst (ns.map V.int)) := by rw [upd_ne hsp]; exact hs
        -- if cell >= 10 ** 18
        refine ⟨_, rfl, _, _, rfl, rfl, ⟨by decide, by decide, by decide⟩, _, _, rfl, rfl, _, rfl, ?_⟩
        refine ite2 (fun c3 => ?_) (fun c3 => ?_)
        · refine ⟨_, rfl, _, rfl, _, _, rfl, rfl, ⟨by omega, by omega⟩, _, rfl, p, _, _, 2, rfl, rfl, hp1, rfl, ?_⟩
          obtain ⟨g3, g4⟩ := pool_upd (T := T) (j1 := i1 + 1) (j2 := z.fdiv many) (j3 := i3) (j4 := i4) hp1 hs1 hl (by omega) (by rw [Int.fdiv_eq_ediv_of_nonneg _ (by omega)]; exact Int.ediv_nonneg z0 (by omega))
          exact ⟨_, rfl, .inl ⟨_, rfl, _, rfl, _, _, rfl, rfl, hm0, k _ _ (hmod _).1 (hmod _).2 g3 (g2.trans g4)⟩⟩
        · refine ⟨_, rfl, _, rfl, p, _, _, 3, rfl, rfl, hp1, rfl, ?_⟩
          obtain ⟨g3, g4⟩ := pool_upd (T := T) (j1 := i1 + 1) (j2 := i2) (j3 := z) (j4 := i4) hp1 hs1 hl (by omega) h2
          exact ⟨_, _, _, rfl, g3, g2.trans g4⟩
      · rintro σ' H1 ⟨y2, y3, y4, rfl, ⟨ns, i1, i2, i3, i4, hp, hs, hl, h1, h2⟩, e1⟩
        refine ⟨_, rfl, p, _, _, _, rfl, rfl, SqL.of hp, at_of (j := 4) rfl rfl, _, _, rfl, rfl, _, rfl, p, _, _, 4, rfl, rfl, hp, rfl, ?_⟩
        obtain ⟨g1, g2⟩ := pool_upd (T := T) (j1 := i1) (j2 := i2) (j3 := i3) (j4 := i4 + 1) hp hs hl h1 h2
        have hp : (upd H1 p (.lst [.ref s, .int i1, .int i2, .int i3, .int (i4 + 1)])) p = some (.lst [.ref s, .int i1, .int i2, .int i3, .int (i4 + 1)]) := upd_same
        refine ⟨_, rfl, p, _, _, _, rfl, rfl, SqL.of hp, at_of (j := 3) rfl rfl, _, _, rfl, rfl, .inr ⟨by decide, by decide⟩, _, rfl, p, _, _, _, rfl, rfl, SqL.of hp, at_of (j := 4) rfl rfl, _, _, rfl, rfl, .inr ⟨by decide, by decide⟩, _, _, rfl, rfl, _, _, rfl, rfl, .inl ⟨_, rfl, _, _, rfl, rfl, (by show (0 : Int) < 2147483647; decide), ?_⟩⟩
        have b1 : ∀ z : Int, 0 ≤ z % 2147483647 ∧ z % 2147483647 < 2147483647 := fun z => ⟨Int.emod_nonneg _ (by decide), Int.emod_lt_of_pos _ (by decide)⟩
        refine ⟨_, rfl, _, rfl, _, _, rfl, rfl, .inl ⟨?_, ?_⟩, _, rfl, p, _, _, _, rfl, rfl, SqL.of hp, at_of (j := 4) rfl rfl, _, _, rfl, rfl, .inr ⟨by decide, by decide⟩, _, _, rfl, rfl, .inl ⟨_, rfl, _, _, rfl, rfl, (by show (0 : Int) < 2147483399; decide), ?_⟩⟩
        · have := (b1 (i3 * 48271 + (i4 + 1) * 69621 + 7919)).1; omega
        · have := (b1 (i3 * 48271 + (i4 + 1) * 69621 + 7919)).2; omega
        exact ⟨_, rfl, .inl ⟨_, rfl, _, rfl, _, _, rfl, rfl, hm0, k _ _ (hmod _).1 (hmod _).2 g1 (e1.trans g2)⟩⟩
theorem ok__law_pick {f : Addr} {fd : FuncData} (F : Fun K "_law_pick" "_law_pick" s_law_pick f fd) (m_len : mg "len" = none) {f_law_draw : Addr} {fd_law_draw : FuncData} (F_law_draw : Fun K "_law_draw" "_law_draw" s_law_draw f_law_draw fd_law_draw) (G_law_draw : FnOk P w K mg base CX0 1 f_law_draw fd_law_draw ["pool", "many"] (spDraw T)) (b_law_draw : Binds K fd_law_draw ["pool", "many"] []) (g_law_draw : mg "_law_draw" = some (.ref f_law_draw)) : FnOk P w K mg base CX0 2 f fd ["pool", "rows"] (spPick T) := by
  refine F.ok sc_law_pick (fun vs H Q E h => ?_) (fun cdv A outer s H vs Q E hr h => ?_)
  · obtain ⟨p, s, a, xs, rfl, hP, ha, hap, hl1, hl2, k⟩ := h
    rfl
  · obtain ⟨p, s, a, xs, rfl, hP, ha, hap, hl1, hl2, k⟩ := h
    refine ⟨_, (pss_one (ps_ret (pe_ix ix_list (pv 1) (pe_call G_law_draw hr (by rfl) g_law_draw F_law_draw.kp b_law_draw .nil pass0 (pa_cons (pv 0) (pa_cons (pe_callB call_len_seq (by rfl) m_len PySem.boot_len (pa_cons (pv 1) pa_nil)) pa_nil))) (fun _ _ => rfl)))), ?_⟩
    refine ⟨_, rfl, _, rfl, _, rfl, a, xs, rfl, .inl (SqL.of ha), p, s, _, rfl, hP, by omega, by omega, fun r H1 r0 r1 hP1 e1 => ?_⟩
    have hj : r.toNat < xs.length := by omega
    refine ⟨a, xs, r, xs[r.toNat], rfl, rfl, SqL.of (e1.lst hap ha), at_of (j := r.toNat) (by omega) (List.getElem?_eq_getElem hj), ?_⟩
    exact k _ _ (List.getElem_mem hj) hP1 e1
theorem ok__law_cost {f : Addr} {fd : FuncData} (F : Fun K "_law_cost" "_law_cost" s_law_cost f fd) {f_law_draw : Addr} {fd_law_draw : FuncData} (F_law_draw : Fun K "_law_draw" "_law_draw" s_law_draw f_law_draw fd_law_draw) (G_law_draw : FnOk P w K mg base CX0 1 f_law_draw fd_law_draw ["pool", "many"] (spDraw T)) (b_law_draw : Binds K fd_law_draw ["pool", "many"] []) (g_law_draw : mg "_law_draw" = some (.ref f_law_draw)) : FnOk P w K mg base CX0 2 f fd ["pool"] (spCost T) := by
  refine F.ok sc_law_cost (fun vs H Q E h => ?_) (fun cdv A outer s H vs Q E hr h => ?_)
  · obtain ⟨p, s, rfl, hP, k⟩ := h
    rfl
  · obtain ⟨p, s, rfl, hP, k⟩ := h
    refine ⟨_, (pss_cons (ps_set (i := 1) sc_law_cost.nd rfl (Or.inl rfl) (pe_call G_law_draw hr (by rfl) g_law_draw F_law_draw.kp b_law_draw .nil pass0 (pa_cons (pv 0) (pa_cons pe_int pa_nil))))
      (pss_cons (ps_if (pt_cmpR op_eq (pv 1) pe_int (nomark _)) (pss_one (ps_ret (pe_op op_add pe_int (pe_call G_law_draw hr (by rfl) g_law_draw F_law_draw.kp b_law_draw .nil pass0 (pa_cons (pv 0) (pa_cons pe_int pa_nil)))))) pss_nil)
      (pss_cons (ps_if (pt_cmpR op_lt (pv 1) pe_int (nomark _)) (pss_one (ps_ret (pe_ix ix_list (pe_lst (pa_cons pe_int (pa_cons pe_int (pa_cons pe_int (pa_cons pe_int (pa_cons pe_int pa_nil)))))) (pe_call G_law_draw hr (by rfl) g_law_draw F_law_draw.kp b_law_draw .nil pass0 (pa_cons (pv 0) (pa_cons pe_int pa_nil))) (fun _ _ => rfl)))) pss_nil)
      (pss_one (ps_ret (pe_op op_add pe_int (pe_call G_law_draw hr (by rfl) g_law_draw F_law_draw.kp b_law_draw .nil pass0 (pa_cons (pv 0) (pa_cons pe_int pa_nil))))))))), ?_⟩
    refine ⟨_, rfl, p, s, _, rfl, hP, by decide, by decide, fun r H1 r0 r1 hP1 e1 => ?_⟩
    refine ⟨_, rfl, rfl, _, rfl, ?_⟩
    refine ite2 (fun c => ?_) (fun c => ?_)
    · refine ⟨_, rfl, p, s, _, rfl, hP1, by decide, by decide, fun r2 H2 r20 r21 hP2 e2 => ⟨_, _, rfl, rfl, ?_⟩⟩
      exact k _ _ (by omega) (by omega) hP2 (e1.trans e2)
    · refine ⟨_, rfl, _, _, rfl, rfl, _, rfl, ?_⟩
      refine ite2 (fun c => ?_) (fun c => ?_)
      · refine ⟨by show 5 ≤ sizeLine; decide, fun l hl => ?_⟩
        have hlp : p ≠ l := fun z => by obtain ⟨_, _, _, _, _, q, _⟩ := hP1; rw [z, hl] at q; cases q
        refine ⟨_, rfl, p, s, _, rfl, hP1.keep (T := T) (Ext.new hl), by decide, by decide, fun r2 H2 r20 r21 hP2 e2 => ?_⟩
        have hl2 : H2 l = some (.lst [.int 1, .int 2, .int 2, .int 3, .int 4]) := e2.lst (fun z => hlp z.symm) upd_same
        obtain ⟨j, rfl⟩ : ∃ j : Nat, r2 = (j : Int) := ⟨r2.toNat, by omega⟩
        have done : ∀ z : Int, 1 ≤ z → z ≤ 10000 → ([.int 1, .int 2, .int 2, .int 3, .int 4] : List V)[j]? = some (.int z) → tRet (tOp (rIxL K) (tC (.ref l)) (tC (.int (j : Int)))) { nx := fun _ H' => Q .non H', rt := Q } [] H2 := fun z z1 z2 e => ⟨l, _, _, _, rfl, rfl, SqL.of hl2, at_of rfl e, k _ _ z1 z2 hP2 ((e1.trans (Ext.new hl)).trans e2)⟩
        have hj : j < 5 := by omega
        match j, hj with
        | 0, _ => exact done 1 (by decide) (by decide) rfl
        | 1, _ => exact done 2 (by decide) (by decide) rfl
        | 2, _ => exact done 2 (by decide) (by decide) rfl
        | 3, _ => exact done 3 (by decide) (by decide) rfl
        | 4, _ => exact done 4 (by decide) (by decide) rfl
      · refine ⟨_, rfl, p, s, _, rfl, hP1, by decide, by decide, fun r2 H2 r20 r21 hP2 e2 => ⟨_, _, rfl, rfl, ?_⟩⟩
        exact k _ _ (by omega) (by omega) hP2 (e1.trans e2)
end
end Mw

set_option Elab.async false
set_option linter.all false
set_option maxRecDepth 100000
set_option maxHeartbeats 4000000
namespace Mw
open PySem PySem.Spec PyProof.Rows L2 GE
/-! ### nets -/
abbrev Wy := Nat × Nat × Nat
def wayD (w : Wy) : D := .t [.i w.1, .i w.2.1, .i w.2.2]
def netD (n : Nat) (ws : List Wy) : D := .t [.i n, .t (ws.map wayD)]
def chD (cs : List Nat) : D := .t (cs.map fun (c : Nat) => D.i (c : Int))
def WayOk (n : Nat) (w : Wy) : Prop := w.1 < w.2.1 ∧ w.2.1 < n ∧ 1 ≤ w.2.2 ∧ w.2.2 ≤ 10000
structure Wf (n : Nat) (ws : List Wy) : Prop where
  n1 : 1 ≤ n
  n12 : n ≤ 12
  ln : ws.length ≤ 24
  ok : ∀ w ∈ ws, WayOk n w
structure Ch (m : Nat) (cs : List Nat) : Prop where
  lt : ∀ c ∈ cs, c < m
  asc : cs.Pairwise (· < ·)
theorem Ch.len {m : Nat} {cs : List Nat} (h : Ch m cs) : cs.length ≤ m := by
  have key : ∀ (cs : List Nat) (lo m : Nat), cs.Pairwise (· < ·) → (∀ c ∈ cs, lo ≤ c ∧ c < m) → cs.length ≤ m - lo := by
    intro cs
    induction cs with
    | nil => intro lo m _ _; exact Nat.zero_le _
    | cons c r ih =>
      intro lo m hp hb
      have h1 := hb c List.mem_cons_self
      obtain ⟨h2, h3⟩ := List.pairwise_cons.mp hp
      have := ih (c + 1) m h3 fun x hx => ⟨h2 x hx, (hb x (List.mem_cons_of_mem _ hx)).2⟩
      rw [List.length_cons]; omega
  have := key cs 0 m h.asc fun c hc => ⟨Nat.zero_le _, h.lt c hc⟩
  omega
def spWay (T : List Addr) : Sp := fun vs H Q _ => ∃ (p s : Addr) (n : Nat), vs = [.ref p, .int n] ∧ PoolAt H p s ∧ 2 ≤ n ∧ n ≤ 1000 ∧ ∀ v w H', WayOk n w → Rp H' (wayD w) v → PoolAt H' p s → Ext T (atP p) H H' → Q v H'
def spNet (T : List Addr) : Sp := fun vs H Q _ => ∃ (p s : Addr) (most ways : Int), vs = [.ref p, .int most, .int ways] ∧ PoolAt H p s ∧ 1 ≤ most ∧ most ≤ 12 ∧ 0 ≤ ways ∧ ways ≤ 24 ∧ ∀ v n ws H', Wf n ws → Rp H' (netD n ws) v → PoolAt H' p s → Ext T (atP p) H H' → Q v H'
def spChoice (T : List Addr) : Sp := fun vs H Q _ => ∃ (p s : Addr) (v : V) (n : Nat) (ws : List Wy), vs = [.ref p, v] ∧ PoolAt H p s ∧ Wf n ws ∧ Rp H (netD n ws) v ∧ ∀ u cs H', Ch ws.length cs → Rp H' (chD cs) u → PoolAt H' p s → Ext T (atP p) H H' → Q u H'
theorem rp_way {H : Hp} {a : Addr} {x y z : Nat} (h : H a = some (.tup [.int x, .int y, .int z])) : Rp H (wayD (x, y, z)) (.ref a) := rp_t h (rpl_cons (rp_i _) (rpl_cons (rp_i _) (rpl_cons (rp_i _) rpl_nil)))
theorem way_at {H : Hp} {w : Wy} {v : V} (h : Rp H (wayD w) v) : ∃ a, v = .ref a ∧ H a = some (.tup [.int w.1, .int w.2.1, .int w.2.2]) := by
  obtain ⟨a, vs, rfl, h1, h2⟩ := h.t
  exact ⟨a, rfl, by rw [h1, RpL.ints (ns := [w.1, w.2.1, w.2.2]) h2]; rfl⟩
theorem net_at {H : Hp} {n : Nat} {ws : List Wy} {v : V} (h : Rp H (netD n ws) v) : ∃ a b vs, v = .ref a ∧ H a = some (.tup [.int n, .ref b]) ∧ H b = some (.tup vs) ∧ RpL H (ws.map wayD) vs := by
  obtain ⟨a, us, rfl, h1, h2⟩ := h.t
  obtain ⟨u1, r1, rfl, g1, h3⟩ := h2.cons
  obtain ⟨u2, r2, rfl, g2, h4⟩ := h3.cons
  rw [h4.nil, g1.i] at h1
  obtain ⟨b, vs, rfl, k1, k2⟩ := g2.t
  exact ⟨a, b, vs, rfl, h1, k1, k2⟩
theorem rp_net {H : Hp} {n : Nat} {ws : List Wy} {a b : Addr} {vs : List V} (h1 : H a = some (.tup [.int n, .ref b])) (h2 : H b = some (.tup vs)) (h3 : RpL H (ws.map wayD) vs) : Rp H (netD n ws) (.ref a) :=
  rp_t h1 (rpl_cons (rp_i _) (rpl_cons (rp_t h2 h3) rpl_nil))
theorem ch_at {H : Hp} {cs : List Nat} {v : V} (h : Rp H (chD cs) v) : ∃ a, v = .ref a ∧ H a = some (.tup (cs.map fun (c : Nat) => V.int (c : Int))) := by
  obtain ⟨a, us, rfl, h1, h2⟩ := h.t
  refine ⟨a, rfl, ?_⟩
  have e : us = (cs.map fun c : Nat => (c : Int)).map V.int := RpL.ints (H := H) (by rw [List.map_map]; exact h2)
  rw [h1, e, List.map_map]; rfl
theorem rp_ch {H : Hp} {cs : List Nat} {a : Addr} (h : H a = some (.tup (cs.map fun (c : Nat) => V.int (c : Int)))) : Rp H (chD cs) (.ref a) := by
  refine rp_t h ?_
  have e := rpl_ints (H := H) (cs.map fun c : Nat => (c : Int))
  rw [List.map_map, List.map_map] at e
  exact e
theorem ne_of_pool {H : Hp} {p s l : Addr} (h : PoolAt H p s) (e : H l = none) : p ≠ l := fun z => (h.ne e).1 z.symm
theorem nat_of {r : Int} (h : 0 ≤ r) : ∃ j : Nat, r = (j : Int) := ⟨r.toNat, by omega⟩
section
variable {P : Program} {w : World} {K : PySem.W.Frag} {mg : Str → Option Value} {base : Heap} {T : List Addr}
theorem ok__law_way {f : Addr} {fd : FuncData} (F : Fun K "_law_way" "_law_way" s_law_way f fd) {f_law_draw : Addr} {fd_law_draw : FuncData} (F_law_draw : Fun K "_law_draw" "_law_draw" s_law_draw f_law_draw fd_law_draw) (G_law_draw : FnOk P w K mg base CX0 2 f_law_draw fd_law_draw ["pool", "many"] (spDraw T)) (b_law_draw : Binds K fd_law_draw ["pool", "many"] []) (g_law_draw : mg "_law_draw" = some (.ref f_law_draw)) {f_law_cost : Addr} {fd_law_cost : FuncData} (F_law_cost : Fun K "_law_cost" "_law_cost" s_law_cost f_law_cost fd_law_cost) (G_law_cost : FnOk P w K mg base CX0 2 f_law_cost fd_law_cost ["pool"] (spCost T)) (b_law_cost : Binds K fd_law_cost ["pool"] []) (g_law_cost : mg "_law_cost" = some (.ref f_law_cost)) : FnOk P w K mg base CX0 3 f fd ["pool", "places"] (spWay T) := by
  refine F.ok sc_law_way (fun vs H Q E h => ?_) (fun cdv A outer s H vs Q E hr h => ?_)
  · obtain ⟨p, s, n, rfl, hP, h2, h1000, k⟩ := h
    rfl
  · obtain ⟨p, s, n, rfl, hP, h2, h1000, k⟩ := h
    refine ⟨_, (pss_cons (ps_set (i := 2) sc_law_way.nd rfl (Or.inl rfl) (pe_call G_law_draw hr (by rfl) g_law_draw F_law_draw.kp b_law_draw .nil pass0 (pa_cons (pv 0) (pa_cons (pe_op op_sub (pv 1) pe_int) pa_nil))))
      (pss_one (ps_ret (pe_tup (pa_cons (pv 2) (pa_cons (pe_op op_add (pe_op op_add (pv 2) pe_int) (pe_call G_law_draw hr (by rfl) g_law_draw F_law_draw.kp b_law_draw .nil pass0 (pa_cons (pv 0) (pa_cons (pe_op op_sub (pe_op op_sub (pv 1) pe_int) (pv 2)) pa_nil)))) (pa_cons (pe_call G_law_cost hr (by rfl) g_law_cost F_law_cost.kp b_law_cost .nil pass0 (pa_cons (pv 0) pa_nil)) pa_nil))))))), ?_⟩
    refine ⟨_, rfl, _, rfl, _, _, rfl, rfl, p, s, _, rfl, hP, by omega, by omega, fun r H1 r0 r1 hP1 e1 => ?_⟩
    obtain ⟨a, rfl⟩ := nat_of r0
    refine ⟨_, rfl, _, rfl, _, _, rfl, rfl, _, rfl, _, rfl, _, _, rfl, rfl, _, rfl, _, _, rfl, rfl, p, s, _, rfl, hP1, by omega, by omega, fun r2 H2 r20 r21 hP2 e2 => ?_⟩
    obtain ⟨b, rfl⟩ := nat_of r20
    refine ⟨_, _, rfl, rfl, _, rfl, p, s, rfl, hP2, fun c H3 c0 c1 hP3 e3 => ?_⟩
    obtain ⟨cc, rfl⟩ := nat_of (show 0 ≤ c by omega)
    refine ⟨by show 3 ≤ sizeLine; decide, fun t ht => ?_⟩
    refine k (.ref t) (a, a + 1 + b, cc) _ ⟨by show a < a + 1 + b; omega, by show a + 1 + b < n; omega, by show 1 ≤ cc; omega, by show cc ≤ 10000; omega⟩ (rp_way (by rw [upd_same]; push_cast; rfl)) (hP3.keep (T := T) (Ext.new ht)) (((e1.trans e2).trans e3).trans (Ext.new ht))
/-- the list that is filled with ways -/
def FillAt (H0 H : Hp) (T : List Addr) (p s l : Addr) (n m : Nat) : Prop := ∃ (ws : List Wy) (vs : List V), PoolAt H p s ∧ Ext T (atP p) H0 H ∧ H l = some (.lst vs) ∧ RpL H (ws.map wayD) vs ∧ ws.length ≤ m ∧ ∀ w ∈ ws, WayOk n w
theorem FillAt.draw {H0 H H' : Hp} {p s l : Addr} {n m : Nat} (f : FillAt H0 H T p s l n m) (hl : l ≠ p) (hP : PoolAt H' p s) (e : Ext T (atP p) H H') : FillAt H0 H' T p s l n m := by
  obtain ⟨ws, vs, hP0, e0, hv, r, hm, ok⟩ := f
  exact ⟨ws, vs, hP, e0.trans e, e.lst hl hv, RpL.p r hP0 e, hm, ok⟩
theorem FillAt.pool {H0 H : Hp} {p s l : Addr} {n m : Nat} (f : FillAt H0 H T p s l n m) : PoolAt H p s := by
  obtain ⟨ws, vs, hP0, _⟩ := f
  exact hP0
theorem FillAt.lst {H0 H : Hp} {p s l : Addr} {n m : Nat} (f : FillAt H0 H T p s l n m) : ∃ vs, H l = some (.lst vs) := by
  obtain ⟨ws, vs, hP0, e0, hv, _⟩ := f
  exact ⟨vs, hv⟩
theorem cutTo (xs : List V) (j : Nat) : cutV xs none (some (j : Int)) = xs.take j := by
  unfold cutV
  rw [HT.sIx_none, HT.sIx_nat]
  show List.take (min j xs.length - 0) (xs.drop 0) = _
  rw [List.drop_zero, Nat.sub_zero]
  by_cases h : j ≤ xs.length
  · rw [Nat.min_eq_left h]
  · rw [Nat.min_eq_right (by omega), List.take_of_length_le (Nat.le_refl _), List.take_of_length_le (by omega)]
theorem minI (a b : Int) : (if b < a then b else a) ≤ a ∧ (if b < a then b else a) ≤ b := by split <;> omega
theorem ok__law_net {f : Addr} {fd : FuncData} (F : Fun K "_law_net" "_law_net" s_law_net f fd) (m_range : mg "range" = none) (m_tuple : mg "tuple" = none) (m_min : mg "min" = none) (m_len : mg "len" = none) {f_law_draw : Addr} {fd_law_draw : FuncData} (F_law_draw : Fun K "_law_draw" "_law_draw" s_law_draw f_law_draw fd_law_draw) (G_law_draw : FnOk P w K mg base CX0 3 f_law_draw fd_law_draw ["pool", "many"] (spDraw T)) (b_law_draw : Binds K fd_law_draw ["pool", "many"] []) (g_law_draw : mg "_law_draw" = some (.ref f_law_draw)) {f_law_way : Addr} {fd_law_way : FuncData} (F_law_way : Fun K "_law_way" "_law_way" s_law_way f_law_way fd_law_way) (G_law_way : FnOk P w K mg base CX0 3 f_law_way fd_law_way ["pool", "places"] (spWay T)) (b_law_way : Binds K fd_law_way ["pool", "places"] []) (g_law_way : mg "_law_way" = some (.ref f_law_way)) {f_law_cost : Addr} {fd_law_cost : FuncData} (F_law_cost : Fun K "_law_cost" "_law_cost" s_law_cost f_law_cost fd_law_cost) (G_law_cost : FnOk P w K mg base CX0 3 f_law_cost fd_law_cost ["pool"] (spCost T)) (b_law_cost : Binds K fd_law_cost ["pool"] []) (g_law_cost : mg "_law_cost" = some (.ref f_law_cost)) : FnOk P w K mg base CX0 4 f fd ["pool", "most", "ways"] (spNet T) := by
  refine F.ok sc_law_net (fun vs H Q E h => ?_) (fun cdv A outer s H vs Q E hr h => ?_)
  · obtain ⟨p, s, most, ways, rfl, hP, hm1, hm2, hw1, hw2, k⟩ := h
    rfl
  · obtain ⟨p, s, most, ways, rfl, hP, hm1, hm2, hw1, hw2, k⟩ := h
    refine ⟨_, (pss_cons (ps_set (i := 3) sc_law_net.nd rfl (Or.inl rfl) (pe_op op_add pe_int (pe_call G_law_draw hr (by rfl) g_law_draw F_law_draw.kp b_law_draw .nil pass0 (pa_cons (pv 0) (pa_cons (pv 1) pa_nil)))))
      (pss_cons (ps_set (i := 4) sc_law_net.nd rfl (Or.inl rfl) (pe_lst pa_nil))
      (Evl.pss_cut (ps_if (PW.pt (pw_and (pt_cmpR op_gt (pv 3) pe_int (nomark _)) (pw_and1 (pt_cmpR op_gt (pe_call G_law_draw hr (by rfl) g_law_draw F_law_draw.kp b_law_draw .nil pass0 (pa_cons (pv 0) (pa_cons pe_int pa_nil))) pe_int (nomark _))))) (pss_one (ps_for PassesOwn.never rfl (pi_range2 (by rfl) m_range (pa_cons pe_int (pa_cons (pv 3) pa_nil))) (pg_name (i := 5) sc_law_net.nd rfl (Or.inl rfl)) (pss_one (ps_expr (pe_bm PySem.F.plainAttrs_list PySem.F.slot_list_append PySem.F.type_list_append mt_append (pv 4) (pa_cons (pe_tup (pa_cons (pe_call G_law_draw hr (by rfl) g_law_draw F_law_draw.kp b_law_draw .nil pass0 (pa_cons (pv 0) (pa_cons (pv 5) pa_nil))) (pa_cons (pv 5) (pa_cons (pe_call G_law_cost hr (by rfl) g_law_cost F_law_cost.kp b_law_cost .nil pass0 (pa_cons (pv 0) pa_nil)) pa_nil)))) pa_nil)))))) pss_nil)
      (Evl.pss_cut (ps_if (pt_cmpR op_gt (pv 3) pe_int (nomark _)) (pss_one (ps_for PassesOwn.never rfl (pi_range1 (by rfl) m_range (pa_cons (pe_call G_law_draw hr (by rfl) g_law_draw F_law_draw.kp b_law_draw .nil pass0 (pa_cons (pv 0) (pa_cons (pe_op op_sub (pe_op op_add (pv 2) pe_int) (pe_callB (call_min2 rfl) (by rfl) m_min (by decide +kernel) (pa_cons (pv 2) (pa_cons (pe_callB call_len_seq (by rfl) m_len PySem.boot_len (pa_cons (pv 4) pa_nil)) pa_nil)))) pa_nil))) pa_nil)) (pg_name (i := 6) sc_law_net.nd rfl (Or.inl rfl)) (pss_one (ps_expr (pe_bm PySem.F.plainAttrs_list PySem.F.slot_list_insert PySem.F.type_list_insert mt_insert (pv 4) (pa_cons (pe_call G_law_draw hr (by rfl) g_law_draw F_law_draw.kp b_law_draw .nil pass0 (pa_cons (pv 0) (pa_cons (pe_op op_add (pe_callB call_len_seq (by rfl) m_len PySem.boot_len (pa_cons (pv 4) pa_nil)) pe_int) pa_nil))) (pa_cons (pe_call G_law_way hr (by rfl) g_law_way F_law_way.kp b_law_way .nil pass0 (pa_cons (pv 0) (pa_cons (pv 3) pa_nil))) pa_nil))))))) pss_nil)
      (pss_one (ps_ret (pe_tup (pa_cons (pv 3) (pa_cons (pe_callTy call_tuple_of (by rfl) m_tuple (by decide +kernel) (pa_cons (pe_slice sl_list (pv 4) po_none (po_some (pv 2))) pa_nil)) pa_nil))))))))), ?_⟩
    refine ⟨_, rfl, _, rfl, p, s, _, rfl, hP, by omega, by omega, fun r H1 r0 r1 hP1 e1 => ⟨_, _, rfl, rfl, ?_⟩⟩
    obtain ⟨n, hn⟩ : ∃ n : Nat, 1 + r = (n : Int) := ⟨(1 + r).toNat, by omega⟩
    have n1 : 1 ≤ n := by omega
    have n12 : n ≤ 12 := by omega
    dsimp only
    rw [hn]
    refine ⟨by show 0 ≤ sizeLine; decide, fun l hl => ?_⟩
    obtain ⟨hlp, hls⟩ := hP1.ne hl
    have hl0 : H l = none := e1.fr l hl
    have F0 : FillAt H (upd H1 l (.lst [])) T p s l n 0 := ⟨[], [], hP1.upd hlp hls, e1.trans (Ext.new hl), upd_same, rpl_nil, Nat.le_refl _, fun w hw => by simp at hw⟩
    -- the first ways
    refine ⟨fun σ' H' => ∃ y5, σ' = [some (.ref p), some (.int most), some (.int ways), some (.int n), some (.ref l), y5, none] ∧ FillAt H H' T p s l n 11, ?_, ?_⟩
    · refine ⟨_, rfl, _, _, rfl, rfl, _, rfl, ?_⟩
      have F1 : ∀ {m H'}, FillAt H H' T p s l n m → m ≤ 11 → FillAt H H' T p s l n 11 := fun {m H'} ⟨ws, vs, a1, a2, a3, a4, a5, a6⟩ h => ⟨ws, vs, a1, a2, a3, a4, Nat.le_trans a5 h, a6⟩
      refine ite2 (fun c => ?_) (fun c => iteF ⟨none, rfl, F1 F0 (by omega)⟩)
      refine ⟨_, rfl, p, s, _, rfl, F0.pool, by decide, by decide, fun r2 H2 r20 r21 hP2 e2 => ⟨_, _, rfl, rfl, _, rfl, ?_⟩⟩
      have F2 := F0.draw hlp hP2 e2
      refine ite2 (fun c2 => ?_) (fun c2 => ⟨none, rfl, F1 F2 (by omega)⟩)
      have c' : (n : Int) > 1 := of_decide_eq_true c
      refine ⟨_, rfl, 1, n, rfl, ⟨by decide, by decide, by omega, by omega⟩, for_range (lo := 1) (n := ((n : Int) - 1).toNat) (fun i σ' H' => ∃ y5, σ' = [some (.ref p), some (.int most), some (.int ways), some (.int n), some (.ref l), y5, none] ∧ FillAt H H' T p s l n i) ⟨none, rfl, F2⟩ ?_ ?_⟩
      · rintro i σ' H3 hi ⟨y5, rfl, F3⟩
        have hP3 : PoolAt H3 p s := F3.pool
        obtain ⟨vs3, hl3⟩ := F3.lst
        refine ⟨_, rfl, .inl ⟨rfl, _, SqL.of hl3⟩, ?_⟩
        refine ⟨_, rfl, _, rfl, p, s, _, rfl, hP3, by omega, by omega, fun r4 H4 r40 r41 hP4 e4 => ?_⟩
        have F4 := F3.draw hlp hP4 e4
        obtain ⟨a, rfl⟩ := nat_of r40
        refine ⟨_, rfl, _, rfl, p, s, rfl, hP4, fun c5 H5 c0 c1 hP5 e5 => ?_⟩
        obtain ⟨ws, vs, _, e05, hl5, r5, hm5, ok5⟩ := F4.draw hlp hP5 e5
        obtain ⟨cc, rfl⟩ := nat_of (show 0 ≤ c5 by omega)
        refine ⟨by show 3 ≤ sizeLine; decide, fun t ht => ?_⟩
        have htl : l ≠ t := ne_of_none hl5 ht
        have e6 : Ext T (atP p) H5 (upd H5 t (.tup [.int (a : Int), .int (1 + (i : Int)), .int (cc : Int)])) := Ext.new ht
        have hl6 : (upd H5 t (.tup [.int (a : Int), .int (1 + (i : Int)), .int (cc : Int)])) l = some (.lst vs) := by rw [upd_ne htl]; exact hl5
        have hvl : vs.length = ws.length := by rw [r5.len, List.length_map]
        refine ⟨l, vs, _, rfl, rfl, hl6, small1000 (by omega), ?_⟩
        refine ⟨_, rfl, ws ++ [(a, 1 + i, cc)], vs ++ [.ref t], (hP5.keep (T := T) (Ext.new ht)).upd hlp hls, (e05.trans e6).mut (.inl hl0) hl6 ltbl, upd_same, ?_, ?_, ?_⟩
        · rw [List.map_append]
          refine rpl_upd (RpL.snoc (RpL.p r5 hP5 e6) (rp_way ?_)) hl6
          rw [upd_same]; push_cast; rfl
        · rw [List.length_append, List.length_singleton]; omega
        · intro w hw
          rcases List.mem_append.mp hw with h | h
          · exact ok5 w h
          · rw [List.mem_singleton.mp h]
            exact ⟨by show a < 1 + i; omega, by show 1 + i < n; omega, by show 1 ≤ cc; omega, by show cc ≤ 10000; omega⟩
      · rintro σ' H3 ⟨y5, rfl, F3⟩
        exact ⟨_, rfl, F1 F3 (by omega)⟩
    · rintro σ' H2 ⟨y5, rfl, F2⟩
      -- the other ways
      refine ⟨fun σ' H' => ∃ y6, σ' = [some (.ref p), some (.int most), some (.int ways), some (.int n), some (.ref l), y5, y6] ∧ FillAt H H' T p s l n 36, ?_, ?_⟩
      · have F1 : ∀ {m H'}, FillAt H H' T p s l n m → m ≤ 36 → FillAt H H' T p s l n 36 := fun {m H'} ⟨ws, vs, a1, a2, a3, a4, a5, a6⟩ h => ⟨ws, vs, a1, a2, a3, a4, Nat.le_trans a5 h, a6⟩
        refine ⟨_, rfl, _, _, rfl, rfl, _, rfl, ?_⟩
        refine ite2 (fun c => ?_) (fun c => ⟨none, rfl, F1 F2 (by omega)⟩)
        have c' : (n : Int) > 1 := of_decide_eq_true c
        obtain ⟨ws2, vs2, hP2, e02, hl2, r2, hm2', ok2⟩ := _root_.id F2
        have hv2 : vs2.length = ws2.length := by rw [r2.len, List.length_map]
        have mn := minI ways (vs2.length : Int)
        refine ⟨_, rfl, _, rfl, _, _, rfl, rfl, _, rfl, _, rfl, l, _, rfl, .inl (SqL.of hl2), _, _, rfl, _, _, rfl, rfl, p, s, _, rfl, hP2, by omega, by omega, fun r3 H3 r30 r31 hP3 e3 => ?_⟩
        have F3 := F2.draw hlp hP3 e3
        have hb : r3 < 26 := by omega
        refine ⟨r3, rfl, by omega, by omega, for_range (lo := 0) (n := r3.toNat) (fun i σ' H' => ∃ y6, σ' = [some (.ref p), some (.int most), some (.int ways), some (.int n), some (.ref l), y5, y6] ∧ FillAt H H' T p s l n (11 + i)) ⟨none, rfl, F3⟩ ?_ ?_⟩
        · rintro i σ' H4 hi ⟨y6, rfl, F4⟩
          obtain ⟨ws4, vs4, hP4, e04, hl4, r4, hm4, ok4⟩ := _root_.id F4
          have hv4 : vs4.length = ws4.length := by rw [r4.len, List.length_map]
          refine ⟨_, rfl, .inl ⟨rfl, _, SqL.of hl4⟩, ?_⟩
          refine ⟨_, rfl, _, rfl, l, _, rfl, .inl (SqL.of hl4), _, _, rfl, rfl, p, s, _, rfl, hP4, by omega, by omega, fun r5 H5 r50 r51 hP5 e5 => ?_⟩
          have F5 := F4.draw hlp hP5 e5
          have hl5 := e5.lst hlp hl4
          refine ⟨_, rfl, _, rfl, p, s, n, rfl, hP5, by omega, by omega, fun v w H6 hw hv hP6 e6 => ?_⟩
          have r6 := RpL.p (RpL.p r4 hP4 e5) hP5 e6
          have hl6 := e6.lst hlp hl5
          refine ⟨l, vs4, r5, v, rfl, rfl, hl6, small1000 (by omega), r50, by omega, ?_⟩
          refine ⟨_, rfl, ws4.take r5.toNat ++ [w] ++ ws4.drop r5.toNat, vs4.take r5.toNat ++ [v] ++ vs4.drop r5.toNat, hP6.upd hlp hls, ((e04.trans e5).trans e6).mut (.inl hl0) hl6 ltbl, upd_same, ?_, ?_, ?_⟩
          · rw [List.map_append, List.map_append, List.map_take, List.map_drop]
            exact rpl_upd (((r6.take _).append (rpl_cons hv rpl_nil)).append (r6.drop _)) hl6
          · have := List.length_take_le r5.toNat ws4
            rw [List.length_append, List.length_append, List.length_take, List.length_drop, List.length_singleton]; omega
          · intro x hx
            rcases List.mem_append.mp hx with h | h
            · rcases List.mem_append.mp h with h | h
              · exact ok4 x (List.mem_of_mem_take h)
              · rw [List.mem_singleton.mp h]; exact hw
            · exact ok4 x (List.mem_of_mem_drop h)
        · rintro σ' H4 ⟨y6, rfl, F4⟩
          exact ⟨_, rfl, F1 F4 (by omega)⟩
      · rintro σ' H3 ⟨y6, rfl, ws, vs, hP3, e03, hl3, r3, hm3, ok3⟩
        refine ⟨_, rfl, _, rfl, _, rfl, ways, rfl, l, vs, rfl, SqL.of hl3, fun q hq => ?_⟩
        obtain ⟨j, rfl⟩ := nat_of hw1
        rw [cutTo]
        refine ⟨q, _, rfl, .inl ⟨SqL.of upd_same, fun t ht => ?_⟩⟩
        refine ⟨by show 2 ≤ sizeLine; decide, fun u hu => ?_⟩
        have eq1 : Ext T noM H3 (upd H3 q (.lst (vs.take j))) := Ext.new hq
        have eq2 : Ext T noM (upd H3 q (.lst (vs.take j))) (upd (upd H3 q (.lst (vs.take j))) t (.tup (vs.take j))) := Ext.new ht
        have eq3 : Ext T noM (upd (upd H3 q (.lst (vs.take j))) t (.tup (vs.take j))) (upd (upd (upd H3 q (.lst (vs.take j))) t (.tup (vs.take j))) u (.tup [.int (n : Int), .ref t])) := Ext.new hu
        have e123 := (eq1.trans eq2).trans eq3
        have htu : t ≠ u := fun z => by rw [← z, upd_same] at hu; cases hu
        refine k (.ref u) n (ws.take j) _ ⟨n1, n12, ?_, fun x hx => ok3 x (List.mem_of_mem_take hx)⟩ (rp_net (b := t) (vs := vs.take j) upd_same (by rw [upd_ne htu, upd_same]) ?_) (hP3.keep e123) (e03.trans e123.weak)
        · have := List.length_take_le j ws
          omega
        · rw [List.map_take]
          exact (RpL.x e123 r3).take j
end
end Mw

set_option linter.all false
namespace Mw
/-- connected by the edges -/
inductive Cn (es : List (Nat × Nat)) : Nat → Nat → Prop where
  | refl (x : Nat) : Cn es x x
  | fwd {x a b : Nat} : Cn es x a → (a, b) ∈ es → Cn es x b
  | bwd {x a b : Nat} : Cn es x b → (a, b) ∈ es → Cn es x a
namespace Cn
variable {es fs : List (Nat × Nat)}
theorem trans {x y z : Nat} (h : Cn es x y) (g : Cn es y z) : Cn es x z := by
  induction g with
  | refl => exact h
  | fwd _ he ih => exact ih.fwd he
  | bwd _ he ih => exact ih.bwd he
theorem symm {x y : Nat} (h : Cn es x y) : Cn es y x := by
  induction h with
  | refl => exact .refl _
  | fwd _ he ih => exact (Cn.bwd (.refl _) he).trans ih
  | bwd _ he ih => exact (Cn.fwd (.refl _) he).trans ih
theorem mono (hs : ∀ e ∈ es, e ∈ fs) {x y : Nat} (h : Cn es x y) : Cn fs x y := by
  induction h with
  | refl => exact .refl _
  | fwd _ he ih => exact ih.fwd (hs _ he)
  | bwd _ he ih => exact ih.bwd (hs _ he)
theorem inv {x y : Nat} (h : Cn es x y) {P : Nat → Prop} (hP : ∀ e ∈ es, P e.1 ↔ P e.2) : P x ↔ P y := by
  induction h with
  | refl => exact Iff.rfl
  | fwd _ he ih => exact ih.trans (hP _ he)
  | bwd _ he ih => exact ih.trans (hP _ he).symm
theorem nil {x y : Nat} (h : Cn [] x y) : x = y := by
  induction h with
  | refl => rfl
  | fwd _ he _ => cases he
  | bwd _ he _ => cases he
end Cn

/-- h tells of each place below n the first place of its group -/
structure Hom (n : Nat) (es : List (Nat × Nat)) (h : Nat → Nat) : Prop where
  le : ∀ x, x < n → h x ≤ x
  idem : ∀ x, x < n → h (h x) = h x
  iff : ∀ x y, x < n → y < n → (h x = h y ↔ Cn es x y)
  bd : ∀ e ∈ es, e.1 < n ∧ e.2 < n
theorem Hom.start (n : Nat) : Hom n [] (fun x => x) := ⟨fun _ _ => Nat.le_refl _, fun _ _ => rfl, fun x y _ _ => ⟨fun e => by rw [show x = y from e]; exact .refl _, fun h => h.nil⟩, fun e he => by cases he⟩
def relab (h : Nat → Nat) (a b : Nat) : Nat → Nat := fun x => if h x = max (h a) (h b) then min (h a) (h b) else h x
theorem Hom.step {n : Nat} {es : List (Nat × Nat)} {h : Nat → Nat} (H : Hom n es h) {a b : Nat} (ha : a < n) (hb : b < n) : Hom n (es ++ [(a, b)]) (relab h a b) := by
  have la := H.le a ha
  have lb := H.le b hb
  have ia := H.idem a ha
  have ib := H.idem b hb
  have ilow : h (min (h a) (h b)) = min (h a) (h b) := by
    rcases Nat.le_total (h a) (h b) with q | q
    · rw [Nat.min_eq_left q]; exact ia
    · rw [Nat.min_eq_right q]; exact ib
  have lowhigh : min (h a) (h b) ≤ max (h a) (h b) := by omega
  refine ⟨fun x hx => ?_, fun x hx => ?_, fun x y hx hy => ⟨fun e => ?_, fun c => ?_⟩, fun e he => ?_⟩
  · unfold relab
    have := H.le x hx
    split <;> omega
  · by_cases hxm : h x = max (h a) (h b)
    · have e1 : relab h a b x = min (h a) (h b) := if_pos hxm
      rw [e1]
      unfold relab
      rw [ilow]; split <;> rfl
    · have e1 : relab h a b x = h x := if_neg hxm
      rw [e1]
      unfold relab
      rw [H.idem x hx, if_neg hxm]
  · -- the same label: connected
    have up : ∀ {u v : Nat}, Cn es u v → Cn (es ++ [(a, b)]) u v := fun c => c.mono fun e he => List.mem_append_left _ he
    have ab : Cn (es ++ [(a, b)]) a b := .fwd (.refl _) (List.mem_append_right _ (List.mem_singleton.mpr rfl))
    have toHigh : ∀ {u : Nat}, u < n → h u = max (h a) (h b) → Cn (es ++ [(a, b)]) u a := fun {u} hu e => by
      rcases Nat.le_total (h a) (h b) with q | q
      · rw [Nat.max_eq_right q] at e
        exact (up ((H.iff u b hu hb).mp e)).trans ab.symm
      · rw [Nat.max_eq_left q] at e
        exact up ((H.iff u a hu ha).mp e)
    have toLow : ∀ {u : Nat}, u < n → h u = min (h a) (h b) → Cn (es ++ [(a, b)]) u a := fun {u} hu e => by
      rcases Nat.le_total (h a) (h b) with q | q
      · rw [Nat.min_eq_left q] at e
        exact up ((H.iff u a hu ha).mp e)
      · rw [Nat.min_eq_right q] at e
        exact (up ((H.iff u b hu hb).mp e)).trans ab.symm
    unfold relab at e
    by_cases hx1 : h x = max (h a) (h b)
    · rw [if_pos hx1] at e
      by_cases hy1 : h y = max (h a) (h b)
      · exact (toHigh hx hx1).trans (toHigh hy hy1).symm
      · rw [if_neg hy1] at e
        exact (toHigh hx hx1).trans (toLow hy e.symm).symm
    · rw [if_neg hx1] at e
      by_cases hy1 : h y = max (h a) (h b)
      · rw [if_pos hy1] at e
        exact (toLow hx e).trans (toHigh hy hy1).symm
      · rw [if_neg hy1] at e
        exact up ((H.iff x y hx hy).mp e)
  · -- connected: the same label
    have eab : relab h a b a = relab h a b b := by
      unfold relab
      rcases Nat.le_total (h a) (h b) with q | q
      · rw [Nat.max_eq_right q, Nat.min_eq_left q, if_pos rfl]
        split <;> rfl
      · rw [Nat.max_eq_left q, Nat.min_eq_right q, if_pos rfl]
        split <;> rfl
    have inv := c.inv (P := fun z => relab h a b x = relab h a b z) fun e he => by
      have ee : relab h a b e.1 = relab h a b e.2 := by
        rcases List.mem_append.mp he with q | q
        · have hb' := H.bd e q
          have := (H.iff e.1 e.2 hb'.1 hb'.2).mpr (.fwd (.refl _) q)
          unfold relab; rw [this]
        · rw [List.mem_singleton.mp q]; exact eab
      rw [ee]
    exact inv.mp rfl
  · rcases List.mem_append.mp he with q | q
    · exact H.bd e q
    · rw [List.mem_singleton.mp q]; exact ⟨ha, hb⟩

/-! ### lists of places -/
/-- the group of p -/
def cls (h : Nat → Nat) (n p : Nat) : List Nat := (List.range n).filter fun x => h x == h p
def reps (h : Nat → Nat) (n : Nat) : List Nat := (List.range n).filter fun x => h x == x
def grps (h : Nat → Nat) (n : Nat) : List (List Nat) := (reps h n).map (cls h n)
theorem mem_cls {h : Nat → Nat} {n p x : Nat} : x ∈ cls h n p ↔ x < n ∧ h x = h p := by
  unfold cls; rw [List.mem_filter, List.mem_range, beq_iff_eq]
theorem range_pw (n : Nat) : (List.range n).Pairwise (· < ·) := List.pairwise_lt_range
theorem cls_pw (h : Nat → Nat) (n p : Nat) : (cls h n p).Pairwise (· < ·) := (range_pw n).filter _
theorem sorted_ext : ∀ {l m : List Nat}, l.Pairwise (· < ·) → m.Pairwise (· < ·) → (∀ x, x ∈ l ↔ x ∈ m) → l = m
  | [], [], _, _, _ => rfl
  | [], y :: m, _, _, h => absurd ((h y).mpr List.mem_cons_self) (by simp)
  | x :: l, [], _, _, h => absurd ((h x).mp List.mem_cons_self) (by simp)
  | x :: l, y :: m, hl, hm, h => by
    obtain ⟨hx, hl'⟩ := List.pairwise_cons.mp hl
    obtain ⟨hy, hm'⟩ := List.pairwise_cons.mp hm
    have exy : x = y := by
      rcases List.mem_cons.mp ((h x).mp List.mem_cons_self) with q | q
      · exact q
      · rcases List.mem_cons.mp ((h y).mpr List.mem_cons_self) with q' | q'
        · exact q'.symm
        · have h1 := hy x q
          have h2 := hx y q'
          omega
    subst exy
    rw [sorted_ext hl' hm' fun z => ?_]
    constructor
    · intro hz
      rcases List.mem_cons.mp ((h z).mp (List.mem_cons_of_mem _ hz)) with q | q
      · have := hx z hz; omega
      · exact q
    · intro hz
      rcases List.mem_cons.mp ((h z).mpr (List.mem_cons_of_mem _ hz)) with q | q
      · have := hy z hz; omega
      · exact q
/-- the first of a group -/
theorem cls_head {n : Nat} {es : List (Nat × Nat)} {h : Nat → Nat} (H : Hom n es h) {p : Nat} (hp : p < n) : ∃ r, cls h n p = h p :: r := by
  have hlt : h p < n := Nat.lt_of_le_of_lt (H.le p hp) hp
  have hm : h p ∈ cls h n p := mem_cls.mpr ⟨hlt, H.idem p hp⟩
  cases e : cls h n p with
  | nil => rw [e] at hm; cases hm
  | cons x r =>
    have hx : x ∈ cls h n p := by rw [e]; exact List.mem_cons_self
    obtain ⟨x1, x2⟩ := mem_cls.mp hx
    have pw := cls_pw h n p
    rw [e] at pw hm
    have : h p ≤ x := by rw [← x2]; exact H.le x x1
    rcases List.mem_cons.mp hm with q | q
    · exact ⟨r, by rw [q]⟩
    · have := (List.pairwise_cons.mp pw).1 _ q
      omega
theorem filter_range_succ (f : Nat → Bool) (n : Nat) : (List.range (n + 1)).filter f = (List.range n).filter f ++ if f n then [n] else [] := by
  rw [List.range_succ, List.filter_append]
  congr 1
  cases e : f n with
  | true => rw [List.filter_cons, if_pos e]; rfl
  | false => rw [List.filter_cons, if_neg (by rw [e]; exact Bool.false_ne_true)]; rfl
/-- places found, closed under the edges, all connected with p: the group -/
theorem closed_cls {n : Nat} {es : List (Nat × Nat)} {h : Nat → Nat} (H : Hom n es h) {p : Nat} (hp : p < n) {found l : List Nat} (hmem : p ∈ found) (hc : ∀ x ∈ found, x < n ∧ Cn es p x) (hcl : ∀ e ∈ es, e.1 ∈ found ↔ e.2 ∈ found)
    (hl : l.Pairwise (· < ·)) (hlm : ∀ x, x ∈ l ↔ x ∈ found) : l = cls h n p := by
  refine sorted_ext hl (cls_pw h n p) fun x => (hlm x).trans ⟨fun hx => ?_, fun hx => ?_⟩
  · obtain ⟨h1, h2⟩ := hc x hx
    exact mem_cls.mpr ⟨h1, ((H.iff p x hp h1).mpr h2).symm⟩
  · obtain ⟨h1, h2⟩ := mem_cls.mp hx
    have c := (H.iff p x hp h1).mp h2.symm
    exact (c.inv (P := fun z => z ∈ found) hcl).mp hmem
/-- distinct places below n -/
theorem nodup_le : ∀ {n : Nat} {l : List Nat}, l.Nodup → (∀ x ∈ l, x < n) → l.length ≤ n
  | 0, [], _, _ => Nat.le_refl _
  | 0, x :: l, _, hb => absurd (hb x List.mem_cons_self) (Nat.not_lt_zero _)
  | n + 1, l, hn, hb => by
    by_cases hm : n ∈ l
    · have h1 := nodup_le (n := n) (hn.erase n) fun x hx => by
        have := hn.mem_erase_iff.mp hx
        have := hb x this.2
        omega
      have := List.length_erase_of_mem hm
      have : 0 < l.length := List.length_pos_of_mem hm
      omega
    · have := nodup_le (n := n) hn fun x hx => by
        have := hb x hx
        have : x ≠ n := fun z => hm (z ▸ hx)
        omega
      omega
end Mw

set_option Elab.async false
set_option linter.all false
set_option maxRecDepth 100000
set_option maxHeartbeats 2000000
namespace GE
open PySem PySem.Spec PyProof.Rows L2
/-! ### generator expressions over tuples, lists, the values of a dict: by an invariant -/
section
variable {K : PySem.W.Frag} {a : Addr} {xs : List V} {g : TG} {tt : TT} {te : TE} {vs : List Nat} {σ : L2.St} {Yo : YO} {En : EN} {H : Hp} {J : It}
theorem turn_of (n : Nat) (Pv : Nat → List V → Hp → Prop) (h0 : Pv 0 [] H)
    (hd : ∀ ys H, Pv n ys H → J.stop n H ∧ En ys H)
    (hg : ∀ i ys H, i < n → Pv i ys H → J.go i H)
    (hs : ∀ i x ys H H1, i < n → Pv i ys H → J.yld i H x H1 → ∀ N : List V → Hp → Prop, (∀ zs H', Pv (i + 1) zs H' → N zs H') → g x (wipe σ vs) H1 fun σ2 H2 => wipe σ2 vs = wipe σ vs ∧ tt σ2 H2 fun b H3 =>
      if b = true then te σ2 H3 fun y H4 => ys.length < sizeLine ∧ Yo ys y H4 (N (ys ++ [y]) H4) else N ys H3) :
    ∃ W : Nat → Nat → List V → Hp → Prop, (∃ m, W 0 m [] H) ∧ turnX g tt te vs σ Yo En J W := by
  refine ⟨fun i m ys H => m = n - i ∧ i ≤ n ∧ Pv i ys H, ⟨n, rfl, Nat.zero_le _, h0⟩, ?_⟩
  rintro i m ys H ⟨rfl, hi, p⟩
  rcases Nat.lt_or_eq_of_le hi with h | h
  · refine .inr ⟨hg i ys H h p, fun x H1 hy => ?_⟩
    exact hs i x ys H H1 h p hy (fun ys H4 => ∃ m', m' < n - i ∧ m' = n - (i + 1) ∧ i + 1 ≤ n ∧ Pv (i + 1) ys H4) fun zs H' q => ⟨n - (i + 1), by omega, rfl, h, q⟩
  · subst h
    exact .inl (hd ys H p)
theorem turn_tupI (Pv : Nat → List V → Hp → Prop) (h0 : Pv 0 [] H) (hl : ∀ i ys H, i ≤ xs.length → Pv i ys H → SqT K H a xs) (hd : ∀ ys H, Pv xs.length ys H → En ys H)
    (hs : ∀ i x ys H, xs[i]? = some x → Pv i ys H → ∀ N : List V → Hp → Prop, (∀ zs H', Pv (i + 1) zs H' → N zs H') → g x (wipe σ vs) H fun σ2 H2 => wipe σ2 vs = wipe σ vs ∧ tt σ2 H2 fun b H3 =>
      if b = true then te σ2 H3 fun y H4 => ys.length < sizeLine ∧ Yo ys y H4 (N (ys ++ [y]) H4) else N ys H3) :
    ∃ W : Nat → Nat → List V → Hp → Prop, (∃ m, W 0 m [] H) ∧ turnX g tt te vs σ Yo En (Itt K a) W := by
  refine turn_of xs.length Pv h0 (fun ys H p => ⟨⟨xs, hl _ _ _ (Nat.le_refl _) p, Nat.le_refl _⟩, hd ys H p⟩) (fun i ys H h p => ⟨xs, xs[i], hl _ _ _ (Nat.le_of_lt h) p, List.getElem?_eq_getElem h⟩) ?_
  rintro i x ys H H1 h p ⟨rfl, hy⟩ N hN
  exact hs i x ys H1 (hy xs (hl _ _ _ (Nat.le_of_lt h) p)) p N hN
theorem turn_valsI {d : Addr} {o : Obj} {kvs : List (Key × V)} (Pv : Nat → List V → Hp → Prop) (h0 : Pv 0 [] H) (hl : ∀ i ys H, i ≤ kvs.length → Pv i ys H → H d = some (.frz o (.dK kvs))) (hd : ∀ ys H, Pv kvs.length ys H → En ys H)
    (hs : ∀ i k x ys H, kvs[i]? = some (k, x) → Pv i ys H → ∀ N : List V → Hp → Prop, (∀ zs H', Pv (i + 1) zs H' → N zs H') → g x (wipe σ vs) H fun σ2 H2 => wipe σ2 vs = wipe σ vs ∧ tt σ2 H2 fun b H3 =>
      if b = true then te σ2 H3 fun y H4 => ys.length < sizeLine ∧ Yo ys y H4 (N (ys ++ [y]) H4) else N ys H3) :
    ∃ W : Nat → Nat → List V → Hp → Prop, (∃ m, W 0 m [] H) ∧ turnX g tt te vs σ Yo En (Itd d o kvs) W := by
  refine turn_of kvs.length Pv h0 (fun ys H p => ⟨⟨hl _ _ _ (Nat.le_refl _) p, Nat.le_refl _⟩, hd ys H p⟩) (fun i ys H h p => ⟨hl _ _ _ (Nat.le_of_lt h) p, h⟩) ?_
  rintro i x ys H H1 h p ⟨rfl, k, hk⟩ N hN
  exact hs i k x ys H1 hk p N hN
theorem isum_ints (ns : List Int) : isum (ns.map V.int) = ns.sum := by
  unfold isum; rw [List.map_map]; congr 1
  exact List.map_id'' (fun _ => rfl) ns
theorem tYesI {σ : L2.St} {H : Hp} {A B : Hp → Prop} (h : A H) : tYes σ H fun b H3 => if b = true then A H3 else B H3 := by
  show (if true = true then A H else B H)
  rw [if_pos rfl]; exact h
end
section
variable {X : Cx} {K : PySem.W.Frag}
/-! the same rules, the fragment named (within a generator's frame) -/
theorem ix_tupK (h : X.K = K := by rfl) : IxR X (rIxT K) := h ▸ ix_tup
theorem ix_listK (h : X.K = K := by rfl) : IxR X (rIxL K) := h ▸ ix_list
theorem in_seqK (h : X.K = K := by rfl) : OpR X (compareOp .In) (rIn K false) := h ▸ op_in_seq
theorem notIn_seqK (h : X.K = K := by rfl) : OpR X (compareOp .NotIn) (rIn K true) := h ▸ op_notIn_seq
theorem call_len_seqK (h : X.K = K := by rfl) : CallR X (.builtin "len") (fun xs H Q => ∃ p ys, xs = [.ref p] ∧ (SqL K H p ys ∨ SqT K H p ys) ∧ Q (.int ys.length) H) := h ▸ call_len_seq
theorem call_tuple_ofK (h : X.K = K := by rfl) : CallR X (.type "tuple") (fun xs H Q => ∃ p ys, xs = [.ref p] ∧ ((SqL K H p ys ∧ ∀ l, H l = none → Q (.ref l) (upd H l (.tup ys))) ∨ (SqT K H p ys ∧ Q (.ref p) H))) := h ▸ call_tuple_of
theorem pg_tupK {es : List Expr} {k : Nat} {pos : Pos} {t : TGs} (n : Nat) (h : PGs X es t) (hK : X.K = K := by rfl) (hc : X.calm = true := by rfl)
    (hn : (assignEach es X.env).length = n := by rfl) (hst : (assignEach es X.env).findIdx? (·.1) = none := by rfl) : PG X (.Tuple es k pos) (gTup K n t) := hK ▸ pg_tup hc h hn hst
theorem pi_or {tg e : Expr} {w1 w2 : TI} (h1 : PI X tg e w1) (h2 : PI X tg e w2) : PI X tg e fun σ H R => w1 σ H R ∨ w2 σ H R :=
  ⟨fun pins s σ H R I h => h.elim (h1.run pins s σ H R I) (h2.run pins s σ H R I)⟩
end
end GE

set_option Elab.async false
set_option linter.all false
set_option maxRecDepth 100000
set_option maxHeartbeats 4000000
namespace Mw
open PySem PySem.Spec PyProof.Rows L2 GE
/-! ### choices -/
def wyAt (ws : List Wy) (c : Nat) : Wy := ws.getD c (0, 0, 0)
def edg (ws : List Wy) (cs : List Nat) : List (Nat × Nat) := cs.map fun c => ((wyAt ws c).1, (wyAt ws c).2.1)
def hom (ws : List Wy) (cs : List Nat) : Nat → Nat := cs.foldl (fun h c => relab h (wyAt ws c).1 (wyAt ws c).2.1) fun x => x
theorem take_succ' {α : Type} {l : List α} {i : Nat} {x : α} (h : l[i]? = some x) : l.take (i + 1) = l.take i ++ [x] := by rw [List.take_add_one, h]; rfl
theorem hom_snoc (ws : List Wy) (cs : List Nat) (c : Nat) : hom ws (cs ++ [c]) = relab (hom ws cs) (wyAt ws c).1 (wyAt ws c).2.1 := by unfold hom; rw [List.foldl_append]; rfl
theorem wy_ok {n : Nat} {ws : List Wy} (W : Wf n ws) {c : Nat} (h : c < ws.length) : ws[c]? = some (wyAt ws c) ∧ WayOk n (wyAt ws c) := by
  have e : ws[c]? = some ws[c] := List.getElem?_eq_getElem h
  have e2 : wyAt ws c = ws[c] := by unfold wyAt; rw [List.getD_eq_getElem?_getD, e]; rfl
  exact ⟨by rw [e2]; exact e, by rw [e2]; exact W.ok _ (List.getElem_mem h)⟩
theorem hom_ok {n : Nat} {ws : List Wy} (W : Wf n ws) : ∀ cs : List Nat, (∀ c ∈ cs, c < ws.length) → Hom n (edg ws cs) (hom ws cs) := by
  have key : ∀ (k : Nat) (cs : List Nat), cs.length = k → (∀ c ∈ cs, c < ws.length) → Hom n (edg ws cs) (hom ws cs) := by
    intro k
    induction k with
    | zero =>
      intro cs hl _
      rw [List.eq_nil_of_length_eq_zero hl]; exact Hom.start n
    | succ k ih =>
      intro cs hl hb
      have hne : cs ≠ [] := fun z => by rw [z] at hl; cases hl
      have e := List.dropLast_concat_getLast hne
      rw [← e]
      have hb1 : ∀ c ∈ cs.dropLast, c < ws.length := fun c hc => hb c (List.dropLast_subset _ hc)
      have hlast := hb _ (List.getLast_mem hne)
      have H1 := ih cs.dropLast (by rw [List.length_dropLast]; omega) hb1
      have ok := (wy_ok W hlast).2
      rw [hom_snoc]
      have e2 : edg ws (cs.dropLast ++ [cs.getLast hne]) = edg ws cs.dropLast ++ [((wyAt ws (cs.getLast hne)).1, (wyAt ws (cs.getLast hne)).2.1)] := by unfold edg; rw [List.map_append]; rfl
      rw [e2]
      exact H1.step (Nat.lt_trans ok.1 ok.2.1) ok.2.1
  exact fun cs => key cs.length cs rfl
theorem hom_lt {n : Nat} {ws : List Wy} (W : Wf n ws) {cs : List Nat} (h : ∀ c ∈ cs, c < ws.length) {x : Nat} (hx : x < n) : hom ws cs x < n := Nat.lt_of_le_of_lt ((hom_ok W cs h).le x hx) hx
/-- the list of first places -/
def hV (n : Nat) (h : Nat → Nat) : List V := (List.range n).map fun x => V.int (h x : Nat)
theorem hV_get {n : Nat} {h : Nat → Nat} {x : Nat} (hx : x < n) : (hV n h)[x]? = some (.int (h x : Nat)) := by
  unfold hV; rw [List.getElem?_map, List.getElem?_range hx]; rfl
theorem hV_len (n : Nat) (h : Nat → Nat) : (hV n h).length = n := by unfold hV; rw [List.length_map, List.length_range]
theorem rg_hV (n : Nat) : rgV 0 (n : Int) = hV n fun x => x := by
  unfold rgV hV
  have : ((n : Int) - 0).toNat = n := by omega
  rw [this]
  exact List.map_congr_left fun x _ => by rw [Int.zero_add]
structure Task (H : Hp) (n : Nat) (ws : List Wy) (cs : List Nat) (net ch : V) : Prop where
  W : Wf n ws
  C : Ch ws.length cs
  net : Rp H (netD n ws) net
  ch : Rp H (chD cs) ch
theorem Task.x {T : List Addr} {H H' : Hp} {n : Nat} {ws : List Wy} {cs : List Nat} {net ch : V} (t : Task H n ws cs net ch) (e : Ext T noM H H') : Task H' n ws cs net ch := ⟨t.W, t.C, Rp.x e t.net, Rp.x e t.ch⟩
def spHomes (T : List Addr) : Sp := fun vs H Q _ => ∃ (net ch : V) (n : Nat) (ws : List Wy) (cs : List Nat), vs = [net, ch] ∧ Task H n ws cs net ch ∧ ∀ l H', H l = none → H' l = some (.lst (hV n (hom ws cs))) → Ext T noM H H' → Q (.ref l) H'
def grpD (h : Nat → Nat) (n : Nat) : D := .t ((grps h n).map fun g => .t (g.map fun (x : Nat) => .i (x : Int)))
def spGroups (T : List Addr) : Sp := fun vs H Q _ => ∃ (net ch : V) (n : Nat) (ws : List Wy) (cs : List Nat), vs = [net, ch] ∧ Task H n ws cs net ch ∧ Wd T H ∧ ∀ v H', Rp H' (grpD (hom ws cs) n) v → Ext T noM H H' → Q v H'
def cost (ws : List Wy) (cs : List Nat) : Int := (cs.map fun c => ((wyAt ws c).2.2 : Int)).sum
def spPrice (T : List Addr) : Sp := fun vs H Q _ => ∃ (net ch : V) (n : Nat) (ws : List Wy) (cs : List Nat), vs = [net, ch] ∧ Task H n ws cs net ch ∧ Wd T H ∧ ∀ H', Ext T noM H H' → Q (.int (cost ws cs)) H'
theorem sum_le : ∀ (l : List Int), (∀ z ∈ l, 0 ≤ z ∧ z ≤ 10000) → 0 ≤ l.sum ∧ l.sum ≤ 10000 * l.length
  | [], _ => by simp
  | z :: r, h => by
    have h1 := h z (List.mem_cons_self ..)
    have h2 := sum_le r fun y hy => h y (List.mem_cons_of_mem _ hy)
    rw [List.sum_cons, List.length_cons]; omega
theorem cost_le {n : Nat} {ws : List Wy} {cs : List Nat} (W : Wf n ws) (C : Ch ws.length cs) (i : Nat) : 0 ≤ cost ws (cs.take i) ∧ cost ws (cs.take i) ≤ 240000 := by
  have hl : (cs.take i).length ≤ 24 := Nat.le_trans (by rw [List.length_take]; exact Nat.min_le_right _ _) (Nat.le_trans C.len W.ln)
  have := sum_le ((cs.take i).map fun c => ((wyAt ws c).2.2 : Int)) fun z hz => by
    obtain ⟨c, hc, rfl⟩ := List.mem_map.mp hz
    have ok := (wy_ok W (C.lt c (List.mem_of_mem_take hc))).2
    unfold WayOk at ok
    omega
  unfold cost
  rw [List.length_map] at this
  omega
theorem way_get {H : Hp} {n : Nat} {ws : List Wy} (W : Wf n ws) {us : List V} (r : RpL H (ws.map wayD) us) {c : Nat} (hc : c < ws.length) : ∃ a, us[c]? = some (.ref a) ∧ H a = some (.tup [.int (wyAt ws c).1, .int (wyAt ws c).2.1, .int (wyAt ws c).2.2]) := by
  obtain ⟨v, h1, h2⟩ := r.get (i := c) (d := wayD (wyAt ws c)) (by rw [List.getElem?_map, (wy_ok W hc).1]; rfl)
  obtain ⟨a, rfl, ha⟩ := way_at h2
  exact ⟨a, h1, ha⟩
theorem minN (a b : Nat) : (if (b : Int) < (a : Int) then (b : Int) else (a : Int)) = ((min a b : Nat) : Int) := by split <;> omega
theorem maxN (a b : Nat) : (if (b : Int) > (a : Int) then (b : Int) else (a : Int)) = ((max a b : Nat) : Int) := by split <;> omega
theorem vint_inj {a b : Nat} : (V.int (a : Int) = V.int (b : Int)) ↔ a = b := ⟨fun h => by injection h with h; omega, fun h => by rw [h]⟩
section
variable {P : Program} {w : World} {K : PySem.W.Frag} {mg : Str → Option Value} {base : Heap} {T : List Addr}
theorem ok__homes {f : Addr} {fd : FuncData} (F : Fun K "_homes" "_homes" s_homes f fd) (m_list : mg "list" = none) (m_range : mg "range" = none) (m_min : mg "min" = none) (m_max : mg "max" = none) : FnOk P w K mg base CX0 1 f fd ["net", "choice"] (spHomes T) := by
  refine F.ok sc_homes (fun vs H Q E h => ?_) (fun cdv A outer s H vs Q E hr h => ?_)
  · obtain ⟨net, ch, n, ws, cs, rfl, t, k⟩ := h
    rfl
  · obtain ⟨net, ch, n, ws, cs, rfl, t, k⟩ := h
    refine ⟨_, (pss_cons (ps_asg (pv 0) (pg_tup (by rfl) (pgs_cons (pg_name (i := 2) sc_homes.nd rfl (Or.inl rfl)) (pgs_cons (pg_name (i := 3) sc_homes.nd rfl (Or.inl rfl)) pgs_nil))))
      (pss_cons (ps_set (i := 4) sc_homes.nd rfl (Or.inl rfl) (pe_listRg rfl (by rfl) m_list (prg_1 (by rfl) m_range (pv 2))))
      (pss_cons (ps_for PassesOwn.never rfl (pi_tup (pv 1)) (pg_name (i := 5) sc_homes.nd rfl (Or.inl rfl)) (pss_cons (ps_asg (pe_ix ix_tup (pv 3) (pv 5) (fun _ _ => rfl)) (pg_tup (by rfl) (pgs_cons (pg_name (i := 6) sc_homes.nd rfl (Or.inl rfl)) (pgs_cons (pg_name (i := 7) sc_homes.nd rfl (Or.inl rfl)) (pgs_cons (pg_name (i := 8) sc_homes.nd rfl (Or.inl rfl)) pgs_nil)))))
      (pss_cons (ps_set (i := 9) sc_homes.nd rfl (Or.inr rfl) (pe_callB (call_min2 rfl) (by rfl) m_min (by decide +kernel) (pa_cons (pe_ix ix_list (pv 4) (pv 6) (fun _ _ => rfl)) (pa_cons (pe_ix ix_list (pv 4) (pv 7) (fun _ _ => rfl)) pa_nil))))
      (pss_cons (ps_set (i := 10) sc_homes.nd rfl (Or.inr rfl) (pe_callB (call_max2 rfl) (by rfl) m_max (by decide +kernel) (pa_cons (pe_ix ix_list (pv 4) (pv 6) (fun _ _ => rfl)) (pa_cons (pe_ix ix_list (pv 4) (pv 7) (fun _ _ => rfl)) pa_nil))))
      (pss_one (ps_setLc (i := 4) (own := [("home", 11)]) (g := (gName 11)) (tt := tYes) rfl sc_homes.nd rfl rfl (sw_true rfl rfl rfl (by decide +kernel)) (pi_list (pv 4)) (blkOk_by (own := [("home", 11)]) (N := ["net", "choice", "places", "ways", "homes", "way", "a", "b", "_", "low", "high", "home"]) (sc := defScope s_homes) (by decide +kernel)) (fun _ _ _ _ _ => (pg_name (i := 11) sc_homes.nd rfl (Or.inl rfl))) (fun _ _ _ _ _ => pts_nil) (fun _ _ _ _ _ => (pe_ifExp (pt_cmpR op_eq (pv 11) (pv 10) (nomark _)) (pv 9) (pv 11)))))))))
      (pss_one (ps_ret (pv 4)))))), ?_⟩
    obtain ⟨W, C, hnet, hch⟩ := t
    obtain ⟨na, nb, us, rfl, ha, hb, hus⟩ := net_at hnet
    obtain ⟨ca, rfl, hca⟩ := ch_at hch
    have n12 := W.n12
    have h24 := W.ln
    have hlen : us.length = ws.length := by rw [hus.len, List.length_map]
    refine ⟨_, rfl, na, _, rfl, SqT.of ha, rfl, _, _, rfl, _, _, rfl, rfl, ?_⟩
    refine ⟨_, rfl, n, rfl, RgOk.of_le (by omega) (by omega) (by omega) (by omega), fun l hl => ?_⟩
    rw [rg_hV]
    have e1 : Ext T noM H (upd H l (.lst (hV n fun x => x))) := Ext.new hl
    refine ⟨_, rfl, ca, rfl, ⟨_, SqT.of (e1.tup (fun z => z) hca)⟩, for_tup (K := K) (a := ca) (xs := cs.map fun (c : Nat) => V.int (c : Int)) (fun i σ' H' => ∃ l y5 y6 y7 y8 y9 y10 y11, σ' = [some (.ref na), some (.ref ca), some (.int n), some (.ref nb), some (.ref l), y5, y6, y7, y8, y9, y10, y11] ∧ H l = none ∧ H' l = some (.lst (hV n (hom ws (cs.take i)))) ∧ Ext T noM H H')
      ⟨l, none, none, none, none, none, none, none, rfl, hl, upd_same, e1⟩ (fun i σ' H' _ ⟨_, _, _, _, _, _, _, _, _, _, _, e⟩ => SqT.of (e.tup (fun z => z) hca)) ?_ ?_⟩
    · rintro i x σ' H2 hx ⟨l2, y5, y6, y7, y8, y9, y10, y11, rfl, hl2, hL, e2⟩
      obtain ⟨c, hc, rfl⟩ : ∃ c, cs[i]? = some c ∧ x = V.int ((c : Nat) : Int) := by
        rw [List.getElem?_map] at hx
        cases e : cs[i]? with
        | none => rw [e] at hx; cases hx
        | some c => rw [e] at hx; exact ⟨c, rfl, (Option.some.inj hx).symm⟩
      have hcl : c < ws.length := C.lt c (List.mem_of_getElem? hc)
      obtain ⟨wa, hwa, hwt⟩ := way_get W hus hcl
      obtain ⟨_, ok1, ok2, _⟩ := wy_ok W hcl
      have hL1 := hV_get (n := n) (h := hom ws (cs.take i)) (x := (wyAt ws c).1) (by omega)
      have hL2 := hV_get (n := n) (h := hom ws (cs.take i)) (x := (wyAt ws c).2.1) ok2
      refine ⟨_, rfl, _, rfl, nb, _, _, _, rfl, rfl, SqT.of (e2.tup (fun z => z) hb), at_of (j := c) rfl hwa, wa, _, rfl, SqT.of (e2.tup (fun z => z) hwt), rfl, _, _, rfl, _, _, rfl, _, _, rfl, rfl, ?_⟩
      refine ⟨_, rfl, _, rfl, l2, _, _, _, rfl, rfl, SqL.of hL, at_of (j := (wyAt ws c).1) rfl hL1, _, rfl, _, rfl, l2, _, _, _, rfl, rfl, SqL.of hL, at_of (j := (wyAt ws c).2.1) rfl hL2, _, _, rfl, ?_⟩
      refine ⟨_, rfl, _, rfl, l2, _, _, _, rfl, rfl, SqL.of hL, at_of (j := (wyAt ws c).1) rfl hL1, _, rfl, _, rfl, l2, _, _, _, rfl, rfl, SqL.of hL, at_of (j := (wyAt ws c).2.1) rfl hL2, _, _, rfl, ?_⟩
      rw [minN, maxN]
      refine ⟨_, rfl, l2, rfl, ⟨_, SqL.of hL⟩, fun Dl hD => ?_⟩
      have hnew := hom_snoc ws (cs.take i) c
      rw [← take_succ' hc] at hnew
      refine lc_list (xs := hV n (hom ws (cs.take i))) (fun j H' => Ext T noM H H' ∧ H Dl = none ∧ H' l2 = some (.lst (hV n (hom ws (cs.take i)))) ∧ H' Dl = some (.lst ((hV n (hom ws (cs.take (i + 1)))).take j))) ⟨e2.trans (Ext.new hD), e2.fr _ hD, by rw [upd_ne (ne_of_none hL hD)]; exact hL, upd_same⟩ (fun j H' _ p => SqL.of p.2.2.1) ?_ ?_
      · rintro j x H3 hx ⟨e3, hDn, hL3, hD3⟩
        have hj : j < n := by have := (List.getElem?_eq_some_iff.mp hx).1; rw [hV_len] at this; exact this
        have ex := hV_get (n := n) (h := hom ws (cs.take i)) hj
        rw [hx] at ex
        obtain rfl := Option.some.inj ex
        have el2 : l2 ≠ Dl := fun z => by rw [z, hD3] at hL3; have := congrArg List.length (HO.lst.inj (Option.some.inj hL3)); rw [List.length_take, hV_len, hV_len] at this; omega
        have fin : ∀ z : Nat, z = hom ws (cs.take (i + 1)) j → ∃ acc, H3 Dl = some (.lst acc) ∧ acc.length < sizeLine ∧ (Ext T noM H (upd H3 Dl (.lst (acc ++ [V.int (z : Int)]))) ∧ H Dl = none ∧ (upd H3 Dl (.lst (acc ++ [V.int (z : Int)]))) l2 = some (.lst (hV n (hom ws (cs.take i)))) ∧
            (upd H3 Dl (.lst (acc ++ [V.int (z : Int)]))) Dl = some (.lst ((hV n (hom ws (cs.take (i + 1)))).take (j + 1)))) := fun z ez => by
          refine ⟨_, hD3, ?_, e3.mut (.inl hDn) hD3 ltbl, hDn, by rw [upd_ne el2]; exact hL3, ?_⟩
          · rw [List.length_take, hV_len]; exact small1000 (by omega)
          · rw [upd_same, take_succ' (hV_get hj), ez]
        refine ⟨rfl, tYesI ?_⟩
        refine ⟨_, rfl, _, rfl, rfl, _, rfl, ?_⟩
        refine ite2 (fun q => ⟨_, rfl, fin _ ?_⟩) (fun q => ⟨_, rfl, fin _ ?_⟩)
        · have q' := vint_inj.mp (of_decide_eq_true q)
          rw [hnew]; unfold relab; rw [if_pos q']
        · have q' : ¬ hom ws (cs.take i) j = max (hom ws (cs.take i) (wyAt ws c).1) (hom ws (cs.take i) (wyAt ws c).2.1) := fun z => q (decide_eq_true (by rw [z]))
          rw [hnew]; unfold relab; rw [if_neg q']
      · rintro H3 ⟨e3, hDn, hL3, hD3⟩
        rw [hV_len, List.take_of_length_le (by rw [hV_len]; exact Nat.le_refl _)] at hD3
        exact ⟨Dl, _, _, _, _, _, _, _, rfl, hDn, hD3, e3⟩
    · rintro σ' H2 ⟨l2, y5, y6, y7, y8, y9, y10, y11, rfl, hl2, hL, e2⟩
      rw [List.length_map, List.take_length] at hL
      exact ⟨_, rfl, k l2 _ hl2 hL e2⟩
end
end Mw

set_option linter.all false
namespace Mw
/-! ### fractions: u parts of 4096, in lowest terms -/
def frG (u : Int) : Nat := Nat.gcd u.natAbs 4096
def frX (u : Int) : Int := u / (frG u : Int)
def frY (u : Int) : Int := 4096 / (frG u : Int)
theorem frG_pos (u : Int) : 0 < frG u := Nat.gcd_pos_of_pos_right _ (by decide)
theorem frG_dvd (u : Int) : ((frG u : Nat) : Int) ∣ u := Int.ofNat_dvd_left.mpr (Nat.gcd_dvd_left _ _)
theorem frG_dvd2 (u : Int) : ((frG u : Nat) : Int) ∣ 4096 := Int.ofNat_dvd_left.mpr (Nat.gcd_dvd_right _ _)
theorem frX_mul (u : Int) : frX u * (frG u : Int) = u := Int.ediv_mul_cancel (frG_dvd u)
theorem frY_mul (u : Int) : frY u * (frG u : Int) = 4096 := Int.ediv_mul_cancel (frG_dvd2 u)
theorem frG_le (u : Int) : frG u ≤ 4096 := Nat.le_of_dvd (by decide) (Nat.gcd_dvd_right _ _)
theorem pos_of_mul {a g c : Int} (h : a * g = c) (hg : 0 < g) (hc : 0 < c) : 0 < a := by
  rcases Int.lt_or_le 0 a with h1 | h1
  · exact h1
  · have := Int.mul_le_mul_of_nonneg_right h1 (Int.le_of_lt hg); omega
theorem frY_pos (u : Int) : 0 < frY u := pos_of_mul (frY_mul u) (by have := frG_pos u; omega) (by decide)
theorem frY_le (u : Int) : frY u ≤ 4096 := by
  have h1 := frY_mul u
  have h2 := frY_pos u
  have h3 : (1 : Int) ≤ frG u := by have := frG_pos u; omega
  have := Int.mul_le_mul_of_nonneg_left h3 (Int.le_of_lt h2)
  omega
theorem fr_eq (u : Int) : frX u * 4096 = u * frY u := by
  have h1 := frX_mul u
  have h2 := frY_mul u
  rw [← h2, ← Int.mul_assoc, Int.mul_right_comm, h1]
theorem fr_cop (u : Int) : Int.gcd (frX u) (frY u) = 1 := by
  have hg := frG_pos u
  have h1 : Int.gcd (frX u * (frG u : Int)) (frY u * (frG u : Int)) = Int.gcd (frX u) (frY u) * frG u := by
    rw [Int.gcd_mul_right]; rfl
  rw [frX_mul, frY_mul] at h1
  have h2 : Int.gcd u 4096 = frG u := rfl
  rw [h2] at h1
  have : 1 * frG u = Int.gcd (frX u) (frY u) * frG u := by omega
  exact (Nat.eq_of_mul_eq_mul_right hg this).symm
/-- coprime pairs of the same value are the same -/
theorem cop_uniq {x y x' y' : Int} (hy : 0 < y) (hy' : 0 < y') (c : Int.gcd x y = 1) (c' : Int.gcd x' y' = 1) (h : x * y' = x' * y) : x = x' ∧ y = y' := by
  have d1 : y ∣ y' := by
    have : y ∣ x * y' := ⟨x', by rw [h, Int.mul_comm]⟩
    have h2 := Int.natAbs_dvd_natAbs.mpr this
    rw [Int.natAbs_mul] at h2
    exact Int.natAbs_dvd_natAbs.mp (Nat.Coprime.dvd_of_dvd_mul_left (show Nat.Coprime y.natAbs x.natAbs from (Nat.gcd_comm _ _).trans c) h2)
  have d2 : y' ∣ y := by
    have : y' ∣ x' * y := ⟨x, by rw [← h, Int.mul_comm]⟩
    have h2 := Int.natAbs_dvd_natAbs.mpr this
    rw [Int.natAbs_mul] at h2
    exact Int.natAbs_dvd_natAbs.mp (Nat.Coprime.dvd_of_dvd_mul_left (show Nat.Coprime y'.natAbs x'.natAbs from (Nat.gcd_comm _ _).trans c') h2)
  have e : y = y' := Int.le_antisymm (Int.le_of_dvd hy' d1) (Int.le_of_dvd hy d2)
  subst e
  exact ⟨Int.eq_of_mul_eq_mul_right (by omega) h, rfl⟩
/-- lowest terms of t / b -/
theorem fr_red {t b u : Int} (hb : 0 < b) (h : t * 4096 = u * b) : t / ((Nat.gcd t.natAbs b.natAbs : Nat) : Int) = frX u ∧ b / ((Nat.gcd t.natAbs b.natAbs : Nat) : Int) = frY u := by
  have hg : 0 < Nat.gcd t.natAbs b.natAbs := Nat.gcd_pos_of_pos_right _ (by omega)
  have e1 : t / ((Nat.gcd t.natAbs b.natAbs : Nat) : Int) * ((Nat.gcd t.natAbs b.natAbs : Nat) : Int) = t := Int.ediv_mul_cancel (Int.ofNat_dvd_left.mpr (Nat.gcd_dvd_left _ _))
  have e2 : b / ((Nat.gcd t.natAbs b.natAbs : Nat) : Int) * ((Nat.gcd t.natAbs b.natAbs : Nat) : Int) = b := Int.ediv_mul_cancel (Int.ofNat_dvd_left.mpr (Nat.gcd_dvd_right _ _))
  have eg : Int.gcd t b = Nat.gcd t.natAbs b.natAbs := rfl
  generalize Nat.gcd t.natAbs b.natAbs = g at hg e1 e2 eg ⊢
  generalize t / (g : Int) = x at e1 ⊢
  generalize b / (g : Int) = y at e2 ⊢
  have hy : 0 < y := pos_of_mul e2 (by omega) hb
  have c : Int.gcd x y = 1 := by
    have h1 : Int.gcd (x * (g : Int)) (y * (g : Int)) = Int.gcd x y * g := by rw [Int.gcd_mul_right]; rfl
    rw [e1, e2, eg] at h1
    have : 1 * g = Int.gcd x y * g := by omega
    exact (Nat.eq_of_mul_eq_mul_right hg this).symm
  refine cop_uniq hy (frY_pos u) c (fr_cop u) ?_
  -- x * frY u = frX u * y
  have h3 : x * 4096 = u * y := by
    rw [← e1, ← e2] at h
    have : x * 4096 * (g : Int) = u * y * (g : Int) := by
      rw [Int.mul_right_comm, h, Int.mul_assoc]
    exact Int.eq_of_mul_eq_mul_right (by omega) this
  have h4 := fr_eq u
  have : x * frY u * 4096 = frX u * y * 4096 := by
    rw [Int.mul_right_comm, h3, Int.mul_right_comm u, ← h4, Int.mul_right_comm]
  exact Int.eq_of_mul_eq_mul_right (by decide) this
theorem fr_plus (u v : Int) : (frX u * frY v + frX v * frY u) * 4096 = (u + v) * (frY u * frY v) := by
  have h1 := fr_eq u
  have h2 := fr_eq v
  rw [Int.add_mul, Int.add_mul, Int.mul_right_comm, h1, Int.mul_right_comm (frX v), h2, Int.mul_assoc, Int.mul_assoc, Int.mul_comm (frY v) (frY u)]
theorem fr_minus (u v : Int) : (frX u * frY v - frX v * frY u) * 4096 = (u - v) * (frY u * frY v) := by
  have h1 := fr_eq u
  have h2 := fr_eq v
  rw [Int.sub_mul, Int.sub_mul, Int.mul_right_comm, h1, Int.mul_right_comm (frX v), h2, Int.mul_assoc, Int.mul_assoc, Int.mul_comm (frY v) (frY u)]
theorem fr_less (u v : Int) : frX u * frY v < frX v * frY u ↔ u < v := by
  have h1 := fr_eq u
  have h2 := fr_eq v
  have p : 0 < frY u * frY v := Int.mul_pos (frY_pos u) (frY_pos v)
  have e1 : frX u * frY v * 4096 = u * (frY u * frY v) := by rw [Int.mul_right_comm, h1, Int.mul_assoc]
  have e2 : frX v * frY u * 4096 = v * (frY u * frY v) := by rw [Int.mul_right_comm, h2, Int.mul_assoc, Int.mul_comm (frY v)]
  constructor
  · intro h
    have h3 : u * (frY u * frY v) < v * (frY u * frY v) := by omega
    exact Int.lt_of_mul_lt_mul_right h3 (Int.le_of_lt p)
  · intro h
    have := Int.mul_lt_mul_of_pos_right h p
    omega
theorem fr_span {l s w : Int} (hs : l = w * s) : frX l * 4096 = w * (frY l * s) := by
  rw [fr_eq, hs, Int.mul_assoc, Int.mul_comm s]
theorem fr_int (c : Int) : frX (c * 4096) = c ∧ frY (c * 4096) = 1 := by
  have := fr_red (t := c) (b := 1) (u := c * 4096) (by decide) (by rw [Int.mul_one])
  have e : Nat.gcd c.natAbs (1 : Int).natAbs = 1 := Nat.gcd_one_right _
  rw [e] at this
  have e1 : ((1 : Nat) : Int) = 1 := rfl
  rw [e1, Int.ediv_one, Int.ediv_one] at this
  exact ⟨this.1.symm, this.2.symm⟩
theorem fr_pos (u : Int) : 0 < frX u ↔ 0 < u := by
  have h := fr_eq u
  have hy := frY_pos u
  constructor
  · intro p
    have : 0 < u * frY u := by omega
    exact pos_of_mul rfl hy this
  · intro p
    have : 0 < u * frY u := Int.mul_pos p hy
    omega
theorem frX_bd {u : Int} {b : Int} (h1 : -b ≤ u) (h2 : u ≤ b) : -b ≤ frX u ∧ frX u ≤ b := by
  have h := frX_mul u
  have hg : (1 : Int) ≤ frG u := by have := frG_pos u; omega
  rcases Int.lt_or_le (frX u) 0 with p | p
  · have := Int.mul_le_mul_of_nonneg_left hg (show 0 ≤ -frX u by omega)
    have e : -frX u * (frG u : Int) = -u := by rw [Int.neg_mul, h]
    omega
  · have := Int.mul_le_mul_of_nonneg_left hg p
    omega
end Mw

set_option linter.all false
namespace Mw
/-! ### the growth: amounts in parts of 4096 -/
abbrev Wl := List (Nat × Nat × Nat)
def way (ws : Wl) (c : Nat) : Nat × Nat × Nat := ws.getD c (0, 0, 0)
structure Gs where
  h : Nat → Nat
  dep : Nat → Int
  wid : List (List Nat × Int)
  time : Int
  taken : List (Int × Nat)
def lack (ws : Wl) (S : Gs) (c : Nat) : Int := ((way ws c).2.2 : Int) * 4096 - (S.dep (way ws c).1 + S.dep (way ws c).2.1)
def crosses (ws : Wl) (S : Gs) (c : Nat) : Bool := decide (S.h (way ws c).1 ≠ S.h (way ws c).2.1)
def full (ws : Wl) (S : Gs) (c : Nat) : Bool := crosses ws S c && decide (lack ws S c ≤ 0)
def first (ws : Wl) (S : Gs) : Option Nat := (List.range ws.length).find? (full ws S)
def take1 (ws : Wl) (S : Gs) (c : Nat) : Gs := { S with h := relab S.h (way ws c).1 (way ws c).2.1, taken := S.taken ++ [(S.time, c)] }
def takeAll (ws : Wl) : Nat → Gs → Gs
  | 0, S => S
  | k + 1, S => match first ws S with
    | none => S
    | some c => takeAll ws k (take1 ws S c)
def parted (h : Nat → Nat) (r : Nat) (q : Nat × Nat) : Bool := decide (h q.1 = r) != decide (h q.2 = r)
def opens (n : Nat) (ps : List (Nat × Nat)) (h : Nat → Nat) : List Nat := (reps h n).filter fun r => ps.any (parted h r)
def spd (ws : Wl) (S : Gs) (R : List Nat) (c : Nat) : Nat := (if S.h (way ws c).1 ∈ R then 1 else 0) + (if S.h (way ws c).2.1 ∈ R then 1 else 0)
def canW (ws : Wl) (S : Gs) (R : List Nat) : List Nat := (List.range ws.length).filter fun c => crosses ws S c && decide (0 < spd ws S R c)
def cand (ws : Wl) (S : Gs) (R : List Nat) (c : Nat) : Int := lack ws S c / (spd ws S R c : Int)
def less1 : Option Int → Int → Option Int
  | none, x => some x
  | some y, x => if x < y then some x else some y
def least (l : List Int) : Option Int := l.foldl less1 none
def addW : List (List Nat × Int) → List Nat → Int → List (List Nat × Int)
  | [], k, s => [(k, s)]
  | (j, w) :: r, k, s => if j = k then (j, w + s) :: r else (j, w) :: addW r k s
def grow (n : Nat) (S : Gs) (R : List Nat) (s : Int) : Gs :=
  { S with dep := fun p => S.dep p + if S.h p ∈ R then s else 0, wid := R.foldl (fun w r => addW w (cls S.h n r) s) S.wid, time := S.time + s }
def span (ws : Wl) (S : Gs) (R : List Nat) : Int := (least ((canW ws S R).map (cand ws S R))).getD 0
def turn (n : Nat) (ws : Wl) (ps : List (Nat × Nat)) (S : Gs) : Gs := takeAll ws n (grow n S (opens n ps S.h) (span ws S (opens n ps S.h)))
def start : Gs := ⟨fun x => x, fun _ => 0, [], 0, []⟩
/-! ### the least of a list -/
theorem least_some : ∀ (l : List Int) (b : Option Int) (x : Int), l.foldl less1 b = some x → (b = some x ∨ x ∈ l) ∧ (∀ y ∈ l, x ≤ y) ∧ ∀ y, b = some y → x ≤ y
  | [], b, x, h => ⟨.inl h, (fun y hy => nomatch hy), fun y hy => by rw [show b = some x from h] at hy; rw [Option.some.inj hy]; exact Int.le_refl _⟩
  | z :: l, b, x, h => by
    obtain ⟨h1, h2, h3⟩ := least_some l (less1 b z) x h
    have key : ∃ m, less1 b z = some m ∧ m ≤ z ∧ (∀ y, b = some y → m ≤ y) ∧ (b = some m ∨ m = z) := by
      cases b with
      | none => exact ⟨z, rfl, Int.le_refl _, (fun y hy => nomatch hy), .inr rfl⟩
      | some y =>
        by_cases q : z < y
        · exact ⟨z, if_pos q, Int.le_refl _, fun w hw => by have := Option.some.inj hw; omega, .inr rfl⟩
        · exact ⟨y, if_neg q, by omega, fun w hw => by have := Option.some.inj hw; omega, .inl rfl⟩
    obtain ⟨m, e, k1, k2, k3⟩ := key
    have k4 := h3 m e
    refine ⟨?_, fun y hy => ?_, fun y hy => Int.le_trans k4 (k2 y hy)⟩
    · rcases h1 with h1 | h1
      · have em : m = x := Option.some.inj (e.symm.trans h1)
        subst em
        rcases k3 with k3 | k3
        · exact .inl k3
        · exact .inr (by rw [k3]; exact List.mem_cons_self)
      · exact .inr (List.mem_cons_of_mem _ h1)
    · rcases List.mem_cons.mp hy with q | q
      · rw [q]; exact Int.le_trans k4 k1
      · exact h2 y q
theorem least_none : ∀ (l : List Int) (b : Option Int), l.foldl less1 b = none → b = none ∧ l = []
  | [], b, h => ⟨h, rfl⟩
  | z :: l, b, h => by
    have := (least_none l (less1 b z) h).1
    cases b with
    | none => cases this
    | some y =>
      have e : (if z < y then some z else some y) = none := this
      by_cases q : z < y
      · rw [if_pos q] at e; cases e
      · rw [if_neg q] at e; cases e
theorem least_ex {l : List Int} (h : l ≠ []) : ∃ x, least l = some x ∧ x ∈ l ∧ ∀ y ∈ l, x ≤ y := by
  cases e : least l with
  | none => exact absurd (least_none l none e).2 h
  | some x =>
    obtain ⟨h1, h2, _⟩ := least_some l none x e
    rcases h1 with h1 | h1
    · cases h1
    · exact ⟨x, rfl, h1, h2⟩
/-! ### fewer groups -/
theorem relab_eq {n : Nat} {es : List (Nat × Nat)} {h : Nat → Nat} (H : Hom n es h) {a b x : Nat} (ha : a < n) (hb : b < n) (hx : x < n) : relab h a b x = if h x = h a ∨ h x = h b then min (h a) (h b) else h x := by
  unfold relab
  by_cases q : h x = max (h a) (h b)
  · rw [if_pos q, if_pos (by omega)]
  · rw [if_neg q]
    by_cases q2 : h x = h a ∨ h x = h b
    · rw [if_pos q2]; omega
    · rw [if_neg q2]
theorem mem_reps' {h : Nat → Nat} {n r : Nat} : r ∈ reps h n ↔ r < n ∧ h r = r := by
  unfold reps; rw [List.mem_filter, List.mem_range]; simp
theorem reps_nodup (h : Nat → Nat) (n : Nat) : (reps h n).Nodup := (List.nodup_range).filter _
theorem filter_len_lt {α : Type} {f g : α → Bool} : ∀ {l : List α}, (∀ x ∈ l, f x = true → g x = true) → (∃ x ∈ l, f x = false ∧ g x = true) → (l.filter f).length < (l.filter g).length
  | [], _, ⟨x, hx, _⟩ => nomatch hx
  | y :: l, h, ⟨x, hx, h1, h2⟩ => by
    have hl : ∀ z ∈ l, f z = true → g z = true := fun z hz => h z (List.mem_cons_of_mem _ hz)
    have hle : (l.filter f).length ≤ (l.filter g).length := by
      have := List.countP_mono_left (l := l) (p := f) (q := g) hl
      rw [List.countP_eq_length_filter, List.countP_eq_length_filter] at this
      exact this
    rcases List.mem_cons.mp hx with e | e
    · subst e
      rw [List.filter_cons, List.filter_cons, h1, h2]
      simp only [Bool.false_eq_true, if_false, if_true, List.length_cons]
      omega
    · have ih := filter_len_lt hl ⟨x, e, h1, h2⟩
      rw [List.filter_cons, List.filter_cons]
      by_cases q : f y = true
      · rw [if_pos q, if_pos (h y List.mem_cons_self q), List.length_cons, List.length_cons]; omega
      · rw [if_neg q]
        split
        · rw [List.length_cons]; omega
        · exact ih
theorem reps_less {n : Nat} {es : List (Nat × Nat)} {h : Nat → Nat} (H : Hom n es h) {a b : Nat} (ha : a < n) (hb : b < n) (hne : h a ≠ h b) : (reps (relab h a b) n).length < (reps h n).length := by
  have hla := H.le a ha
  have hlb := H.le b hb
  refine filter_len_lt (fun x hx hf => ?_) ⟨max (h a) (h b), List.mem_range.mpr (by omega), ?_, ?_⟩
  · have hx' := List.mem_range.mp hx
    have e := beq_iff_eq.mp hf
    rw [relab_eq H ha hb hx'] at e
    refine beq_iff_eq.mpr ?_
    by_cases q : h x = h a ∨ h x = h b
    · rw [if_pos q] at e
      have i1 := H.idem a ha
      have i2 := H.idem b hb
      rcases Nat.le_total (h a) (h b) with z | z
      · rw [Nat.min_eq_left z] at e; rw [← e, i1]
      · rw [Nat.min_eq_right z] at e; rw [← e, i2]
    · rw [if_neg q] at e; exact e
  · have hm : max (h a) (h b) < n := by omega
    have i1 := H.idem a ha
    have i2 := H.idem b hb
    refine Bool.eq_false_iff.mpr fun z => ?_
    have e := beq_iff_eq.mp z
    rw [relab_eq H ha hb hm] at e
    rcases Nat.le_total (h a) (h b) with q | q
    · rw [Nat.max_eq_right q, i2, if_pos (.inr rfl), Nat.min_eq_left q] at e; exact hne e
    · rw [Nat.max_eq_left q, i1, if_pos (.inl rfl), Nat.min_eq_right q] at e; exact hne e.symm
  · have i1 := H.idem a ha
    have i2 := H.idem b hb
    refine beq_iff_eq.mpr ?_
    rcases Nat.le_total (h a) (h b) with q | q
    · rw [Nat.max_eq_right q, i2]
    · rw [Nat.max_eq_left q, i1]
end Mw

set_option linter.all false
namespace Mw
/-! ### what holds of the growth -/
def wsum (p : Nat) : List (List Nat × Int) → Int
  | [] => 0
  | (k, w) :: r => (if p ∈ k then w else 0) + wsum p r
theorem wsum_add (p : Nat) (k : List Nat) (s : Int) : ∀ l : List (List Nat × Int), wsum p (addW l k s) = wsum p l + if p ∈ k then s else 0
  | [] => by show (if p ∈ k then s else 0) + 0 = 0 + _; omega
  | (j, w) :: r => by
    by_cases e : j = k
    · subst e
      have : addW ((j, w) :: r) j s = (j, w + s) :: r := if_pos rfl
      rw [this]
      show (if p ∈ j then w + s else 0) + wsum p r = (if p ∈ j then w else 0) + wsum p r + _
      by_cases q : p ∈ j
      · simp only [if_pos q]; omega
      · simp only [if_neg q]; omega
    · have : addW ((j, w) :: r) k s = (j, w) :: addW r k s := if_neg e
      rw [this]
      show (if p ∈ j then w else 0) + wsum p (addW r k s) = (if p ∈ j then w else 0) + wsum p r + _
      rw [wsum_add p k s r]; omega
theorem mem_addW {k : List Nat} {s : Int} : ∀ {l : List (List Nat × Int)} {x : List Nat × Int}, x ∈ addW l k s → (x.1 = k ∧ (x.2 = s ∨ ∃ w, (k, w) ∈ l ∧ x.2 = w + s)) ∨ x ∈ l
  | [], x, h => .inl (by rw [List.mem_singleton.mp h]; exact ⟨rfl, .inl rfl⟩)
  | (j, w) :: r, x, h => by
    by_cases e : j = k
    · subst e
      have e2 : addW ((j, w) :: r) j s = (j, w + s) :: r := if_pos rfl
      rw [e2] at h
      rcases List.mem_cons.mp h with h | h
      · exact .inl (by rw [h]; exact ⟨rfl, .inr ⟨w, List.mem_cons_self, rfl⟩⟩)
      · exact .inr (List.mem_cons_of_mem _ h)
    · have e2 : addW ((j, w) :: r) k s = (j, w) :: addW r k s := if_neg e
      rw [e2] at h
      rcases List.mem_cons.mp h with h | h
      · exact .inr (by rw [h]; exact List.mem_cons_self)
      · rcases mem_addW h with ⟨h1, h2 | ⟨w', h2, h3⟩⟩ | h1
        · exact .inl ⟨h1, .inl h2⟩
        · exact .inl ⟨h1, .inr ⟨w', List.mem_cons_of_mem _ h2, h3⟩⟩
        · exact .inr (List.mem_cons_of_mem _ h1)
/-- the ways of a net -/
structure WsOk (n : Nat) (ws : Wl) : Prop where
  n1 : 1 ≤ n
  n12 : n ≤ 12
  ok : ∀ c, c < ws.length → (way ws c).1 < (way ws c).2.1 ∧ (way ws c).2.1 < n ∧ 1 ≤ (way ws c).2.2 ∧ (way ws c).2.2 ≤ 10000
def wedges (ws : Wl) : List (Nat × Nat) := (List.range ws.length).map fun c => ((way ws c).1, (way ws c).2.1)
def ut (t : Nat) : Int := (2 : Int) ^ (12 - t)
/-- in the middle of a turn: t turns are done, or the t-th is being done -/
structure GM (n : Nat) (ws : Wl) (t : Nat) (S : Gs) : Prop where
  hom : ∃ es, Hom n es S.h
  dv : ∀ p, ut t ∣ S.dep p
  dt : ut t ∣ S.time
  dw : ∀ kw ∈ S.wid, ut t ∣ kw.2
  d0 : ∀ p, 0 ≤ S.dep p ∧ S.dep p ≤ t * 40960000
  t0 : 0 ≤ S.time ∧ S.time ≤ t * 40960000
  w0 : ∀ kw ∈ S.wid, 0 < kw.2 ∧ kw.2 ≤ t * 40960000
  lk : ∀ c, c < ws.length → crosses ws S c = true → 0 ≤ lack ws S c
  sum : ∀ p, p < n → S.dep p = wsum p S.wid
  key : ∀ kw ∈ S.wid, (∀ x ∈ kw.1, x < n ∧ ∀ y ∈ kw.1, S.h x = S.h y) ∧ kw.1 ≠ [] ∧ kw.1.Pairwise (· < ·)
theorem GM.start {n : Nat} {ws : Wl} (W : WsOk n ws) : GM n ws 0 start := by
  refine ⟨⟨[], Hom.start n⟩, fun p => Int.dvd_zero _, Int.dvd_zero _, (fun kw h => nomatch h), fun p => ⟨Int.le_refl _, by show (0 : Int) ≤ _; omega⟩, ⟨Int.le_refl _, by show (0 : Int) ≤ _; omega⟩, (fun kw h => nomatch h), fun c hc _ => ?_, fun p _ => rfl, fun kw h => nomatch h⟩
  have := (W.ok c hc).2.2.1
  show 0 ≤ ((way ws c).2.2 : Int) * 4096 - (0 + 0)
  omega
theorem relab_same {n : Nat} {es : List (Nat × Nat)} {h : Nat → Nat} (H : Hom n es h) {a b x y : Nat} (ha : a < n) (hb : b < n) (hx : x < n) (hy : y < n) (e : h x = h y) : relab h a b x = relab h a b y := by
  unfold relab; rw [e]
theorem GM.take {n t : Nat} {ws : Wl} {S : Gs} (W : WsOk n ws) (G : GM n ws t S) {c : Nat} (hc : c < ws.length) (hx : crosses ws S c = true) :
    GM n ws t (take1 ws S c) ∧ (reps (take1 ws S c).h n).length < (reps S.h n).length := by
  obtain ⟨es, H⟩ := G.hom
  obtain ⟨w1, w2, _⟩ := W.ok c hc
  have ha : (way ws c).1 < n := Nat.lt_trans w1 w2
  refine ⟨⟨⟨_, H.step ha w2⟩, G.dv, G.dt, G.dw, G.d0, G.t0, G.w0, fun d hd hcr => ?_, G.sum, fun kw hk => ?_⟩, reps_less H ha w2 (of_decide_eq_true hx)⟩
  · refine G.lk d hd (decide_eq_true fun z => ?_)
    obtain ⟨v1, v2, _⟩ := W.ok d hd
    exact of_decide_eq_true hcr (relab_same H ha w2 (Nat.lt_trans v1 v2) v2 z)
  · obtain ⟨k1, k2, k3⟩ := G.key kw hk
    exact ⟨fun x hx => ⟨(k1 x hx).1, fun y hy => relab_same H ha w2 (k1 x hx).1 (k1 y hy).1 ((k1 x hx).2 y hy)⟩, k2, k3⟩
theorem first_some {ws : Wl} {S : Gs} {c : Nat} (h : first ws S = some c) : c < ws.length ∧ crosses ws S c = true ∧ lack ws S c ≤ 0 := by
  have h1 := List.find?_some h
  have h2 := List.mem_of_find?_eq_some h
  unfold full at h1
  rw [Bool.and_eq_true, decide_eq_true_eq] at h1
  exact ⟨List.mem_range.mp h2, h1.1, h1.2⟩
theorem first_none {ws : Wl} {S : Gs} (h : first ws S = none) {c : Nat} (hc : c < ws.length) (hx : crosses ws S c = true) : 0 < lack ws S c := by
  have h1 := List.find?_eq_none.mp h c (List.mem_range.mpr hc)
  rcases Int.lt_or_le 0 (lack ws S c) with q | q
  · exact q
  · exact absurd (by unfold full; rw [hx, decide_eq_true q]; rfl) h1
theorem GM.takeAll {n t : Nat} {ws : Wl} (W : WsOk n ws) : ∀ {k : Nat} {S : Gs}, GM n ws t S → (reps S.h n).length ≤ k → GM n ws t (takeAll ws k S) ∧ first ws (takeAll ws k S) = none ∧ (reps (takeAll ws k S).h n).length ≤ (reps S.h n).length ∧
    (∀ c, first ws S = some c → (reps (takeAll ws k S).h n).length < (reps S.h n).length)
  | 0, S, G, hk => by
    have hno : first ws S = none := by
      cases e : first ws S with
      | none => rfl
      | some c =>
        obtain ⟨hc, hx, _⟩ := first_some e
        have := (G.take W hc hx).2
        omega
    exact ⟨G, hno, Nat.le_refl _, fun c e => by rw [hno] at e; cases e⟩
  | k + 1, S, G, hk => by
    cases e : first ws S with
    | none =>
      have e2 : Mw.takeAll ws (k + 1) S = S := by show (match first ws S with | none => S | some c => _) = S; rw [e]
      rw [e2]
      exact ⟨G, e, Nat.le_refl _, fun c e => by cases e⟩
    | some c =>
      have e2 : Mw.takeAll ws (k + 1) S = Mw.takeAll ws k (take1 ws S c) := by show (match first ws S with | none => S | some c => _) = _; rw [e]
      obtain ⟨hc, hx, _⟩ := first_some e
      obtain ⟨G2, hlt⟩ := G.take W hc hx
      obtain ⟨h1, h2, h3, _⟩ := GM.takeAll W (k := k) G2 (by omega)
      rw [e2]
      exact ⟨h1, h2, by omega, fun _ _ => by omega⟩
theorem takeAll_time (ws : Wl) : ∀ (k : Nat) (S : Gs), (takeAll ws k S).time = S.time ∧ (takeAll ws k S).dep = S.dep ∧ (takeAll ws k S).wid = S.wid
  | 0, S => ⟨rfl, rfl, rfl⟩
  | k + 1, S => by
    show ((match first ws S with | none => S | some c => takeAll ws k (take1 ws S c)) : Gs).time = _ ∧ ((match first ws S with | none => S | some c => takeAll ws k (take1 ws S c)) : Gs).dep = _ ∧ ((match first ws S with | none => S | some c => takeAll ws k (take1 ws S c)) : Gs).wid = _
    cases first ws S with
    | none => exact ⟨rfl, rfl, rfl⟩
    | some c => exact takeAll_time ws k (take1 ws S c)
/-! ### a way that leads out of an open group -/
theorem mem_opens {n : Nat} {ps : List (Nat × Nat)} {h : Nat → Nat} {r : Nat} : r ∈ opens n ps h ↔ (r < n ∧ h r = r) ∧ ∃ q ∈ ps, parted h r q = true := by
  unfold opens; rw [List.mem_filter, mem_reps', List.any_eq_true]
theorem out_way {n : Nat} {ws : Wl} {ps : List (Nat × Nat)} {S : Gs} (W : WsOk n ws) (J : ∀ q ∈ ps, Cn (wedges ws) q.1 q.2) {r : Nat} (hr : r ∈ opens n ps S.h) :
    ∃ c, c < ws.length ∧ crosses ws S c = true ∧ (S.h (way ws c).1 = r ∨ S.h (way ws c).2.1 = r) := by
  refine Classical.byContradiction fun hno => ?_
  obtain ⟨_, q, hq, hp⟩ := mem_opens.mp hr
  have hiff := (J q hq).inv (P := fun x => S.h x = r) fun e he => by
    obtain ⟨c, hc, rfl⟩ := List.mem_map.mp he
    have hc' := List.mem_range.mp hc
    by_cases z : S.h (way ws c).1 = S.h (way ws c).2.1
    · show S.h (way ws c).1 = r ↔ S.h (way ws c).2.1 = r
      rw [z]
    · have h1 : ¬ S.h (way ws c).1 = r := fun y => hno ⟨c, hc', decide_eq_true z, .inl y⟩
      have h2 : ¬ S.h (way ws c).2.1 = r := fun y => hno ⟨c, hc', decide_eq_true z, .inr y⟩
      exact ⟨fun y => absurd y h1, fun y => absurd y h2⟩
  unfold parted at hp
  by_cases z : S.h q.1 = r
  · rw [decide_eq_true z, decide_eq_true (hiff.mp z)] at hp; cases hp
  · rw [decide_eq_false z, decide_eq_false fun y => z (hiff.mpr y)] at hp; cases hp
theorem spd_le (ws : Wl) (S : Gs) (R : List Nat) (c : Nat) : spd ws S R c ≤ 2 := by unfold spd; split <;> split <;> omega
theorem mem_canW {ws : Wl} {S : Gs} {R : List Nat} {c : Nat} : c ∈ canW ws S R ↔ c < ws.length ∧ crosses ws S c = true ∧ 0 < spd ws S R c := by
  unfold canW; rw [List.mem_filter, List.mem_range, Bool.and_eq_true, decide_eq_true_eq]
theorem ut_succ {t : Nat} (ht : t < 12) : ut t = 2 * ut (t + 1) := by
  unfold ut
  have : 12 - t = (12 - (t + 1)) + 1 := by omega
  rw [this, Int.pow_succ, Int.mul_comm]
theorem ut_4096 (t : Nat) : ut t ∣ 4096 := by
  unfold ut
  refine ⟨2 ^ (12 - (12 - t)), ?_⟩
  rw [← Int.pow_add, show 12 - t + (12 - (12 - t)) = 12 by omega]
  rfl
theorem GM.lack_dvd {n t : Nat} {ws : Wl} {S : Gs} (G : GM n ws t S) (c : Nat) : ut t ∣ lack ws S c := by
  unfold lack
  exact Int.dvd_sub (Int.dvd_trans (ut_4096 t) (Int.dvd_mul_left _ _)) (Int.dvd_add (G.dv _) (G.dv _))
/-- the time that a way wants is whole -/
theorem GM.cand_eq {n t : Nat} {ws : Wl} {S : Gs} (G : GM n ws t S) (ht : t < 12) (R : List Nat) {c : Nat} (hs : 0 < spd ws S R c) : cand ws S R c * (spd ws S R c : Int) = lack ws S c ∧ ut (t + 1) ∣ cand ws S R c := by
  obtain ⟨m, hm⟩ := G.lack_dvd c
  rw [ut_succ ht] at hm
  have h2 := spd_le ws S R c
  unfold cand
  generalize spd ws S R c = s at hs h2
  rcases (show s = 1 ∨ s = 2 by omega) with rfl | rfl
  · have e1 : ((1 : Nat) : Int) = 1 := rfl
    rw [e1, Int.ediv_one, Int.mul_one]
    exact ⟨rfl, ⟨2 * m, by rw [hm, Int.mul_comm 2, Int.mul_assoc]⟩⟩
  · have e1 : lack ws S c / ((2 : Nat) : Int) = ut (t + 1) * m := by
      rw [hm, Int.mul_assoc]
      exact Int.mul_ediv_cancel_left _ (by decide)
    rw [e1]
    refine ⟨?_, ⟨m, rfl⟩⟩
    rw [hm]
    show ut (t + 1) * m * 2 = _
    rw [Int.mul_comm, ← Int.mul_assoc]
/-! ### a turn grows -/
theorem wsum_grow {n : Nat} {h : Nat → Nat} (s : Int) (p : Nat) : ∀ (R : List Nat) (w : List (List Nat × Int)), wsum p (R.foldl (fun w r => addW w (cls h n r) s) w) = wsum p w + (R.map fun r => if p ∈ cls h n r then s else 0).sum
  | [], w => by show wsum p w = wsum p w + 0; omega
  | r :: R, w => by
    show wsum p (R.foldl _ (addW w (cls h n r) s)) = _
    rw [wsum_grow s p R, wsum_add, List.map_cons, List.sum_cons]; omega
theorem sum_one {α : Type} [DecidableEq α] (s : Int) (a : α) : ∀ {l : List α}, l.Nodup → (l.map fun r => if r = a then s else 0).sum = if a ∈ l then s else 0
  | [], _ => by simp
  | x :: l, h => by
    obtain ⟨h1, h2⟩ := List.nodup_cons.mp h
    rw [List.map_cons, List.sum_cons, sum_one s a h2]
    by_cases e : x = a
    · subst e
      rw [if_pos rfl, if_neg h1, if_pos List.mem_cons_self]; omega
    · rw [if_neg e]
      by_cases q : a ∈ l
      · rw [if_pos q, if_pos (List.mem_cons_of_mem _ q)]; omega
      · rw [if_neg q, if_neg (fun z => by rcases List.mem_cons.mp z with z | z; exact e z.symm; exact q z)]; omega
theorem mem_grow {n : Nat} {h : Nat → Nat} {s : Int} : ∀ {R : List Nat} {w : List (List Nat × Int)} {x : List Nat × Int}, x ∈ R.foldl (fun w r => addW w (cls h n r) s) w → R.Nodup → (∀ r ∈ R, r < n ∧ h r = r) →
    x ∈ w ∨ ∃ r ∈ R, x.1 = cls h n r ∧ (x.2 = s ∨ ∃ v, (x.1, v) ∈ w ∧ x.2 = v + s)
  | [], w, x, h, _, _ => .inl h
  | r :: R, w, x, hx, nd, hR => by
    obtain ⟨h1, h2⟩ := List.nodup_cons.mp nd
    have rr := hR r List.mem_cons_self
    rcases mem_grow (R := R) (w := addW w (cls h n r) s) hx h2 (fun q hq => hR q (List.mem_cons_of_mem _ hq)) with q | ⟨r', hr', e1, e2⟩
    · rcases mem_addW q with ⟨q1, q2 | ⟨v, q2, q3⟩⟩ | q1
      · exact .inr ⟨r, List.mem_cons_self, q1, .inl q2⟩
      · exact .inr ⟨r, List.mem_cons_self, q1, .inr ⟨v, by rw [q1]; exact q2, q3⟩⟩
      · exact .inl q1
    · rcases e2 with e2 | ⟨v, e2, e3⟩
      · exact .inr ⟨r', List.mem_cons_of_mem _ hr', e1, .inl e2⟩
      · rcases mem_addW e2 with ⟨q1, _⟩ | q1
        · exfalso
          have rr' := hR r' (List.mem_cons_of_mem _ hr')
          have e4 : cls h n r' = cls h n r := e1.symm.trans q1
          have : r' ∈ cls h n r := by rw [← e4]; exact mem_cls.mpr ⟨rr'.1, rfl⟩
          have := (mem_cls.mp this).2
          rw [rr'.2, rr.2] at this
          exact h1 (this ▸ hr')
        · exact .inr ⟨r', List.mem_cons_of_mem _ hr', e1, .inr ⟨v, q1, e3⟩⟩
theorem opens_nodup (n : Nat) (ps : List (Nat × Nat)) (h : Nat → Nat) : (opens n ps h).Nodup := (reps_nodup h n).filter _
theorem lack_grow (n : Nat) (ws : Wl) (S : Gs) (R : List Nat) (s : Int) (c : Nat) : lack ws (grow n S R s) c = lack ws S c - s * (spd ws S R c : Int) := by
  unfold lack grow spd
  dsimp only
  split <;> split <;> simp <;> omega
theorem GM.grow {n t : Nat} {ws : Wl} {ps : List (Nat × Nat)} {S : Gs} (W : WsOk n ws) (J : ∀ q ∈ ps, Cn (wedges ws) q.1 q.2) (G : GM n ws t S) (ht : t < 12) (hf : first ws S = none) (hR : opens n ps S.h ≠ []) :
    0 < span ws S (opens n ps S.h) ∧ span ws S (opens n ps S.h) ≤ 40960000 ∧ ut (t + 1) ∣ span ws S (opens n ps S.h) ∧ least ((canW ws S (opens n ps S.h)).map (cand ws S (opens n ps S.h))) = some (span ws S (opens n ps S.h)) ∧
    GM n ws (t + 1) (grow n S (opens n ps S.h) (span ws S (opens n ps S.h))) ∧ ∃ c, first ws (grow n S (opens n ps S.h) (span ws S (opens n ps S.h))) = some c := by
  have hRok : ∀ r ∈ opens n ps S.h, r < n ∧ S.h r = r := fun r hr => (mem_opens.mp hr).1
  have hnd := opens_nodup n ps S.h
  obtain ⟨r0, hr0⟩ := List.exists_mem_of_ne_nil _ hR
  obtain ⟨c0, hc0, hx0, hs0⟩ := out_way W J hr0
  have hcan : canW ws S (opens n ps S.h) ≠ [] := List.ne_nil_of_mem (mem_canW.mpr ⟨hc0, hx0, by
    unfold spd
    rcases hs0 with z | z
    · rw [if_pos (z ▸ hr0)]; omega
    · rw [if_pos (c := S.h (way ws c0).2.1 ∈ _) (z ▸ hr0)]; omega⟩)
  obtain ⟨x, hx, hxm, hxl⟩ := least_ex (l := (canW ws S (opens n ps S.h)).map (cand ws S (opens n ps S.h))) (fun z => hcan (List.map_eq_nil_iff.mp z))
  have hsp : span ws S (opens n ps S.h) = x := by unfold span; rw [hx]; rfl
  rw [hsp]
  generalize opens n ps S.h = R at *
  obtain ⟨c1, hc1, hxc⟩ := List.mem_map.mp hxm
  obtain ⟨k1, k2, k3⟩ := mem_canW.mp hc1
  obtain ⟨e1, e2⟩ := G.cand_eq ht R k3
  rw [hxc] at e1 e2
  have hl1 := first_none hf k1 k2
  have hs2 := spd_le ws S R c1
  have hx0 : 0 < x := by
    rcases Int.lt_or_le 0 x with q | q
    · exact q
    · have := Int.mul_le_mul_of_nonneg_right q (show (0 : Int) ≤ (spd ws S R c1 : Int) by omega); omega
  have hxle : x ≤ 40960000 := by
    have h1 : lack ws S c1 ≤ 40960000 := by
      have h1 := (W.ok c1 k1).2.2.2
      have h2 := (G.d0 (way ws c1).1).1
      have h3 := (G.d0 (way ws c1).2.1).1
      unfold lack; omega
    have := Int.mul_le_mul_of_nonneg_left (show (1 : Int) ≤ (spd ws S R c1 : Int) by omega) (Int.le_of_lt hx0)
    omega
  have hcls : ∀ r ∈ R, ∀ p, p < n → (p ∈ cls S.h n r ↔ S.h p = r) := fun r hr p hp => by
    rw [mem_cls, (hRok r hr).2]; exact ⟨fun z => z.2, fun z => ⟨hp, z⟩⟩
  have dvd1 : ∀ z : Int, ut t ∣ z → ut (t + 1) ∣ z := fun z ⟨m, hm⟩ => ⟨2 * m, by rw [hm, ut_succ ht, Int.mul_comm 2, Int.mul_assoc]⟩
  refine ⟨hx0, hxle, e2, hx, ?_, ?_⟩
  · refine ⟨G.hom, fun p => ?_, Int.dvd_add (dvd1 _ G.dt) e2, fun kw hk => ?_, fun p => ?_, ?_, fun kw hk => ?_, fun c hc hcr => ?_, fun p hp => ?_, fun kw hk => ?_⟩
    · show ut (t + 1) ∣ S.dep p + if S.h p ∈ R then x else 0
      refine Int.dvd_add (dvd1 _ (G.dv p)) ?_
      split
      · exact e2
      · exact Int.dvd_zero _
    · rcases mem_grow hk hnd hRok with q | ⟨r, hr, q1, q2 | ⟨v, q2, q3⟩⟩
      · exact dvd1 _ (G.dw kw q)
      · rw [q2]; exact e2
      · rw [q3]; exact Int.dvd_add (dvd1 _ (G.dw _ q2)) e2
    · have := G.d0 p
      show 0 ≤ S.dep p + (if S.h p ∈ R then x else 0) ∧ S.dep p + (if S.h p ∈ R then x else 0) ≤ ((t + 1 : Nat) : Int) * 40960000
      split <;> omega
    · have := G.t0
      show 0 ≤ S.time + x ∧ S.time + x ≤ ((t + 1 : Nat) : Int) * 40960000
      omega
    · rcases mem_grow hk hnd hRok with q | ⟨r, hr, q1, q2 | ⟨v, q2, q3⟩⟩
      · have := G.w0 kw q
        constructor <;> omega
      · rw [q2]; constructor <;> omega
      · have := G.w0 _ q2
        rw [q3]; constructor
        · have : 0 < v := this.1
          omega
        · have : v ≤ (t : Int) * 40960000 := this.2
          omega
    · rw [lack_grow]
      have hcr' : crosses ws S c = true := hcr
      have hl := first_none hf hc hcr'
      by_cases q : 0 < spd ws S R c
      · obtain ⟨f1, _⟩ := G.cand_eq ht R q
        have hle := hxl _ (List.mem_map_of_mem (f := cand ws S R) (mem_canW.mpr ⟨hc, hcr', q⟩))
        have := Int.mul_le_mul_of_nonneg_right hle (show (0 : Int) ≤ (spd ws S R c : Int) by omega)
        omega
      · have : spd ws S R c = 0 := by omega
        rw [this]
        show 0 ≤ lack ws S c - x * 0
        omega
    · show S.dep p + (if S.h p ∈ R then x else 0) = wsum p (R.foldl (fun w r => addW w (cls S.h n r) x) S.wid)
      rw [wsum_grow, G.sum p hp]
      congr 1
      have e : R.map (fun r => if p ∈ cls S.h n r then x else 0) = R.map (fun r => if r = S.h p then x else 0) := List.map_congr_left fun r hr => by
        by_cases z : S.h p = r
        · rw [if_pos ((hcls r hr p hp).mpr z), if_pos z.symm]
        · rw [if_neg (fun y => z ((hcls r hr p hp).mp y)), if_neg (fun y => z y.symm)]
      rw [e, sum_one x (S.h p) hnd]
    · rcases mem_grow hk hnd hRok with q | ⟨r, hr, q1, _⟩
      · exact G.key kw q
      · rw [q1]
        refine ⟨fun y hy => ⟨(mem_cls.mp hy).1, fun z hz => (mem_cls.mp hy).2.trans (mem_cls.mp hz).2.symm⟩, List.ne_nil_of_mem (mem_cls.mpr ⟨(hRok r hr).1, rfl⟩), cls_pw _ _ _⟩
  · cases e : first ws (Mw.grow n S R x) with
    | some c => exact ⟨c, rfl⟩
    | none =>
      have := first_none e k1 k2
      rw [lack_grow, e1] at this
      omega
/-- a whole turn -/
theorem GM.turn {n t : Nat} {ws : Wl} {ps : List (Nat × Nat)} {S : Gs} (W : WsOk n ws) (J : ∀ q ∈ ps, Cn (wedges ws) q.1 q.2) (G : GM n ws t S) (hn : (reps S.h n).length + t ≤ n) (hf : first ws S = none) (hR : opens n ps S.h ≠ []) :
    t < 12 ∧ GM n ws (t + 1) (turn n ws ps S) ∧ first ws (turn n ws ps S) = none ∧ (reps (turn n ws ps S).h n).length + (t + 1) ≤ n := by
  obtain ⟨r0, hr0⟩ := List.exists_mem_of_ne_nil _ hR
  have hpos : 0 < (reps S.h n).length := List.length_pos_of_mem (mem_reps'.mpr (mem_opens.mp hr0).1)
  have n12 := W.n12
  have ht : t < 12 := by omega
  obtain ⟨_, _, _, _, G2, c, hc⟩ := G.grow W J ht hf hR
  obtain ⟨h1, h2, _, h4⟩ := GM.takeAll W (k := n) G2 (by show (reps S.h n).length ≤ n; omega)
  have h5 := h4 c hc
  have h6 : (reps S.h n).length = (reps (Mw.grow n S (opens n ps S.h) (span ws S (opens n ps S.h))).h n).length := rfl
  refine ⟨ht, h1, h2, ?_⟩
  unfold Mw.turn
  omega
end Mw

set_option Elab.async false
set_option linter.all false
set_option maxRecDepth 100000
set_option maxHeartbeats 4000000
namespace Mw
open PySem PySem.Spec PyProof.Rows L2 GE
/-! ### fractions -/
def FrV (K : PySem.W.Frag) (H : Hp) (u : Int) (v : V) : Prop := ∃ a, v = .ref a ∧ SqT K H a [.int (frX u), .int (frY u)]
theorem SqT.x {K : PySem.W.Frag} {T : List Addr} {M : Addr → Prop} {H H' : Hp} {a : Addr} {xs : List V} (h : SqT K H a xs) (e : Ext T M H H') (m : ¬ M a) : SqT K H' a xs := by
  rcases h with (h | ⟨o, h⟩) | h
  · exact .inl (.inl (e.tup m h))
  · exact .inl (.inr ⟨o, e.kp _ _ m h fun ps z => by cases z⟩)
  · exact .inr h
theorem FrV.x {K : PySem.W.Frag} {T : List Addr} {H H' : Hp} {u : Int} {v : V} (h : FrV K H u v) (e : Ext T noM H H') : FrV K H' u v := by
  obtain ⟨a, rfl, h⟩ := h
  exact ⟨a, rfl, SqT.x h e fun z => z⟩
abbrev bd (u : Int) : Prop := -1099511627776 ≤ u ∧ u ≤ 1099511627776
def spRatio (K : PySem.W.Frag) (T : List Addr) : Sp := fun vs H Q _ => ∃ (t b u : Int), vs = [.int t, .int b] ∧ 0 < b ∧ b < 1073741824 ∧ t * 4096 = u * b ∧ ∀ v H', FrV K H' u v → Ext T noM H H' → Q v H'
def spPlus (K : PySem.W.Frag) (T : List Addr) : Sp := fun vs H Q _ => ∃ (x y : V) (u v : Int), vs = [x, y] ∧ FrV K H u x ∧ FrV K H v y ∧ bd u ∧ bd v ∧ ∀ z H', FrV K H' (u + v) z → Ext T noM H H' → Q z H'
def spMinus (K : PySem.W.Frag) (T : List Addr) : Sp := fun vs H Q _ => ∃ (x y : V) (u v : Int), vs = [x, y] ∧ FrV K H u x ∧ FrV K H v y ∧ bd u ∧ bd v ∧ ∀ z H', FrV K H' (u - v) z → Ext T noM H H' → Q z H'
def spLess (K : PySem.W.Frag) (T : List Addr) : Sp := fun vs H Q _ => ∃ (x y : V) (u v : Int), vs = [x, y] ∧ FrV K H u x ∧ FrV K H v y ∧ bd u ∧ bd v ∧ ∀ H', Ext T noM H H' → Q (.bl (decide (u < v))) H'
theorem mulc {u y : Int} (h : bd u) : -(2 ^ 64) < frX u ∧ frX u < 2 ^ 64 := by
  have := frX_bd (u := u) (b := 1099511627776) h.1 h.2
  omega
theorem muly (u : Int) : -(2 ^ 64) < frY u ∧ frY u < 2 ^ 64 := by
  have h1 := frY_pos u
  have h2 := frY_le u
  omega
theorem yy (u v : Int) : 0 < frY u * frY v ∧ frY u * frY v < 1073741824 := by
  have h1 := frY_pos u
  have h2 := frY_le u
  have h3 := frY_pos v
  have h4 := frY_le v
  refine ⟨Int.mul_pos h1 h3, ?_⟩
  have := Int.mul_le_mul h2 h4 (Int.le_of_lt h3) (by decide)
  omega
section
variable {P : Program} {w : World} {K : PySem.W.Frag} {mg : Str → Option Value} {base : Heap} {T : List Addr}
theorem ok_ratio {f : Addr} {fd : FuncData} (F : Fun K "ratio" "ratio" sratio f fd) (m_gcd : mg "gcd" = some (.builtin "math.gcd")) : FnOk P w K mg base CX0 1 f fd ["top", "bottom"] (spRatio K T) := by
  refine F.ok scratio (fun vs H Q E h => ?_) (fun cdv A outer s H vs Q E hr h => ?_)
  · obtain ⟨t, b, u, rfl, b0, b1, hu, k⟩ := h
    rfl
  · obtain ⟨t, b, u, rfl, b0, b1, hu, k⟩ := h
    refine ⟨_, (pss_cons (ps_set (i := 2) scratio.nd rfl (Or.inl rfl) (pe_callBfun cr_gcd (by rfl) m_gcd (pa_cons (pv 0) (pa_cons (pv 1) pa_nil))))
      (pss_one (ps_ret (pe_tup (pa_cons (pe_op op_fdivN (pv 0) (pv 2)) (pa_cons (pe_op op_fdivN (pv 1) (pv 2)) pa_nil)))))), ?_⟩
    have g0 : 0 < Nat.gcd t.natAbs b.natAbs := Nat.gcd_pos_of_pos_right _ (by omega)
    have g1 : Nat.gcd t.natAbs b.natAbs ≤ b.natAbs := Nat.le_of_dvd (by omega) (Nat.gcd_dvd_right _ _)
    obtain ⟨f1, f2⟩ := fr_red b0 hu
    refine ⟨_, rfl, _, rfl, t, b, rfl, ?_⟩
    refine ⟨_, rfl, _, rfl, _, _, rfl, rfl, ⟨by omega, by omega⟩, _, rfl, _, rfl, _, _, rfl, rfl, ⟨by omega, by omega⟩, by show 2 ≤ sizeLine; decide, fun a ha => k _ _ ⟨a, rfl, SqT.of ?_⟩ (Ext.new ha)⟩
    rw [upd_same]
    dsimp only
    rw [Int.fdiv_eq_ediv_of_nonneg _ (by omega), Int.fdiv_eq_ediv_of_nonneg _ (by omega), f1, f2]
theorem ok_plus {f : Addr} {fd : FuncData} (F : Fun K "plus" "plus" splus f fd) {fratio : Addr} {fdratio : FuncData} (Fratio : Fun K "ratio" "ratio" sratio fratio fdratio) (Gratio : FnOk P w K mg base CX0 1 fratio fdratio ["top", "bottom"] (spRatio K T)) (bratio : Binds K fdratio ["top", "bottom"] []) (gratio : mg "ratio" = some (.ref fratio)) : FnOk P w K mg base CX0 2 f fd ["first", "second"] (spPlus K T) := by
  refine F.ok scplus (fun vs H Q E h => ?_) (fun cdv A outer s H vs Q E hr h => ?_)
  · obtain ⟨x, y, u, v, rfl, hx, hy, bu, bv, k⟩ := h
    rfl
  · obtain ⟨x, y, u, v, rfl, hx, hy, bu, bv, k⟩ := h
    refine ⟨_, (pss_one (ps_ret (pe_call Gratio hr (by rfl) gratio Fratio.kp bratio .nil pass0 (pa_cons (pe_op op_add (pe_op op_mul (pe_ix ix_tup (pv 0) pe_int (fun _ _ => rfl)) (pe_ix ix_tup (pv 1) pe_int (fun _ _ => rfl))) (pe_op op_mul (pe_ix ix_tup (pv 1) pe_int (fun _ _ => rfl)) (pe_ix ix_tup (pv 0) pe_int (fun _ _ => rfl)))) (pa_cons (pe_op op_mul (pe_ix ix_tup (pv 0) pe_int (fun _ _ => rfl)) (pe_ix ix_tup (pv 1) pe_int (fun _ _ => rfl))) pa_nil))))), ?_⟩
    obtain ⟨a, rfl, ha⟩ := hx
    obtain ⟨b, rfl, hb⟩ := hy
    obtain ⟨y1, y2⟩ := yy u v
    refine ⟨_, rfl, a, _, _, _, rfl, rfl, ha, at_of (j := 0) rfl rfl, _, rfl, b, _, _, _, rfl, rfl, hb, at_of (j := 1) rfl rfl, _, _, rfl, rfl, .inl (mulc (y := 0) bu), _, rfl, b, _, _, _, rfl, rfl, hb, at_of (j := 0) rfl rfl, _, rfl, a, _, _, _, rfl, rfl, ha, at_of (j := 1) rfl rfl, _, _, rfl, rfl, .inl (mulc (y := 0) bv), ?_⟩
    
    exact ⟨_, _, rfl, rfl, _, rfl, a, _, _, _, rfl, rfl, ha, at_of (j := 1) rfl rfl, _, rfl, b, _, _, _, rfl, rfl, hb, at_of (j := 1) rfl rfl, _, _, rfl, rfl, .inl (muly u), _, _, u + v, rfl, y1, y2, fr_plus u v, fun z H' hz e => k z H' hz e⟩
theorem ok_minus {f : Addr} {fd : FuncData} (F : Fun K "minus" "minus" sminus f fd) {fratio : Addr} {fdratio : FuncData} (Fratio : Fun K "ratio" "ratio" sratio fratio fdratio) (Gratio : FnOk P w K mg base CX0 1 fratio fdratio ["top", "bottom"] (spRatio K T)) (bratio : Binds K fdratio ["top", "bottom"] []) (gratio : mg "ratio" = some (.ref fratio)) : FnOk P w K mg base CX0 2 f fd ["first", "second"] (spMinus K T) := by
  refine F.ok scminus (fun vs H Q E h => ?_) (fun cdv A outer s H vs Q E hr h => ?_)
  · obtain ⟨x, y, u, v, rfl, hx, hy, bu, bv, k⟩ := h
    rfl
  · obtain ⟨x, y, u, v, rfl, hx, hy, bu, bv, k⟩ := h
    refine ⟨_, (pss_one (ps_ret (pe_call Gratio hr (by rfl) gratio Fratio.kp bratio .nil pass0 (pa_cons (pe_op op_sub (pe_op op_mul (pe_ix ix_tup (pv 0) pe_int (fun _ _ => rfl)) (pe_ix ix_tup (pv 1) pe_int (fun _ _ => rfl))) (pe_op op_mul (pe_ix ix_tup (pv 1) pe_int (fun _ _ => rfl)) (pe_ix ix_tup (pv 0) pe_int (fun _ _ => rfl)))) (pa_cons (pe_op op_mul (pe_ix ix_tup (pv 0) pe_int (fun _ _ => rfl)) (pe_ix ix_tup (pv 1) pe_int (fun _ _ => rfl))) pa_nil))))), ?_⟩
    obtain ⟨a, rfl, ha⟩ := hx
    obtain ⟨b, rfl, hb⟩ := hy
    obtain ⟨y1, y2⟩ := yy u v
    refine ⟨_, rfl, a, _, _, _, rfl, rfl, ha, at_of (j := 0) rfl rfl, _, rfl, b, _, _, _, rfl, rfl, hb, at_of (j := 1) rfl rfl, _, _, rfl, rfl, .inl (mulc (y := 0) bu), _, rfl, b, _, _, _, rfl, rfl, hb, at_of (j := 0) rfl rfl, _, rfl, a, _, _, _, rfl, rfl, ha, at_of (j := 1) rfl rfl, _, _, rfl, rfl, .inl (mulc (y := 0) bv), ?_⟩
    
    exact ⟨_, _, rfl, rfl, _, rfl, a, _, _, _, rfl, rfl, ha, at_of (j := 1) rfl rfl, _, rfl, b, _, _, _, rfl, rfl, hb, at_of (j := 1) rfl rfl, _, _, rfl, rfl, .inl (muly u), _, _, u - v, rfl, y1, y2, fr_minus u v, fun z H' hz e => k z H' hz e⟩
theorem ok_less {f : Addr} {fd : FuncData} (F : Fun K "less" "less" sless f fd) : FnOk P w K mg base CX0 1 f fd ["first", "second"] (spLess K T) := by
  refine F.ok scless (fun vs H Q E h => ?_) (fun cdv A outer s H vs Q E hr h => ?_)
  · obtain ⟨x, y, u, v, rfl, hx, hy, bu, bv, k⟩ := h
    rfl
  · obtain ⟨x, y, u, v, rfl, hx, hy, bu, bv, k⟩ := h
    refine ⟨_, (pss_one (ps_ret (pe_cmpR op_lt (pe_op op_mul (pe_ix ix_tup (pv 0) pe_int (fun _ _ => rfl)) (pe_ix ix_tup (pv 1) pe_int (fun _ _ => rfl))) (pe_op op_mul (pe_ix ix_tup (pv 1) pe_int (fun _ _ => rfl)) (pe_ix ix_tup (pv 0) pe_int (fun _ _ => rfl))) (nomark _)))), ?_⟩
    obtain ⟨a, rfl, ha⟩ := hx
    obtain ⟨b, rfl, hb⟩ := hy
    obtain ⟨y1, y2⟩ := yy u v
    refine ⟨_, rfl, a, _, _, _, rfl, rfl, ha, at_of (j := 0) rfl rfl, _, rfl, b, _, _, _, rfl, rfl, hb, at_of (j := 1) rfl rfl, _, _, rfl, rfl, .inl (mulc (y := 0) bu), _, rfl, b, _, _, _, rfl, rfl, hb, at_of (j := 0) rfl rfl, _, rfl, a, _, _, _, rfl, rfl, ha, at_of (j := 1) rfl rfl, _, _, rfl, rfl, .inl (mulc (y := 0) bv), ?_⟩
    
    have hk := k H (Ext.refl _ _ _)
    rw [show decide (u < v) = decide (frX u * frY v < frX v * frY u) from by rw [decide_eq_decide]; exact (fr_less u v).symm] at hk
    exact ⟨_, _, rfl, rfl, hk⟩
end
end Mw

set_option Elab.async false
set_option linter.all false
set_option maxRecDepth 100000
set_option maxHeartbeats 2000000
/-! enumerate over a tuple; x in a tuple of data -/
namespace GE
open PySem PySem.Spec PyProof.Rows L2
theorem enum_newB {v : Value} {o : Obj} {B0 : Heap → Prop} (B : Begins v o B0) :
    Meets (Builtin.«enumerate.__new__» ⟨[.type "enumerate", v], []⟩) (fun _ R s => B0 s.heap ∧
      R (.ok (.ret (.ref (s.heap.push o).objs.size))) { s with heap := (s.heap.push o).push { cls := .type "enumerate", data := .fields #[.none, .bool false, .ref s.heap.objs.size, rawInt 0, .none, .none] } }) :=
  .of_wp fun prog w A R s ⟨h1, h⟩ => by
    obtain ⟨hp, gn, dr, tk, os⟩ := s
    have hsub := sub_enumerate
    have go : ∀ {A' : Around} {E' : Value → Shared → Prop} {Q' : Value → Shared → Prop}, Q' (.ref hp.objs.size) ⟨hp.push o, gn, dr, tk, os⟩ → wpAny (model prog w) A' (pyIter v) Q' E' ⟨hp, gn, dr, tk, os⟩ := fun q => B.iter _ _ _ _ _ _ h1 q
    wp_walk using go
    refine wpAny_stack_any fun _ => wpAny_pure ?_
    split
    · rename_i cc _ _ _ _ _
      by_cases hcc : (cc == Value.type "enumerate") = true
      · rw [hcc]
        wp_walk using go
        exact ⟨_, rfl, h⟩
      · rw [Bool.eq_false_iff.mpr hcc]
        wp_walk using go
        exact ⟨_, rfl, h⟩
    · wp_walk using go
      exact ⟨_, rfl, h⟩
theorem enum_call {prog : Program} {w : World} {A : Around} {E : Value → Shared → Prop} {s : Shared} {v : Value} {o : Obj} {B0 : Heap → Prop} {Q : Value → Shared → Prop} (B : Begins v o B0) (h1 : B0 s.heap)
    (h : ∀ h', IsEnum h' (s.heap.objs.size + 1) s.heap.objs.size 0 .none → h'.get? s.heap.objs.size = some o → (∀ b u, s.heap.get? b = some u → h'.get? b = some u) → Q (.ref (s.heap.objs.size + 1)) { s with heap := h' }) :
    wpAny (model prog w) A (call (.type "enumerate") [v]) Q E s := by
  refine callType_new F.called_enumerate (by decide) (F.typeCall_enumerate_1 _) (F.newCall_enumerate_1 _) (fun obj => F.args_object_init_2 obj _) F.entry_enumerate_new (enum_newB B) ⟨h1, ?_⟩
  have hz : (s.heap.push o).objs.size = s.heap.objs.size + 1 := Heap.size_push ..
  have he : IsEnum ((s.heap.push o).push { cls := .type "enumerate", data := .fields #[.none, .bool false, .ref s.heap.objs.size, rawInt 0, .none, .none] }) (s.heap.objs.size + 1) s.heap.objs.size 0 .none := by
    rw [← hz]; exact Heap.get?_push_size _ rfl
  show _ ∧ _
  rw [hz]
  exact ⟨⟨_, he, rfl⟩, h _ he (Heap.get?_push_of_some _ (Heap.get?_push_size _ B.free)) fun b u q => Heap.get?_push_of_some _ (Heap.get?_push_of_some _ q)⟩
theorem enum_endT {prog : Program} {w : World} {A : Around} {E : Value → Shared → Prop} {s : Shared} {e it a : Addr} {i : Nat} {items : Array Value} {old : Value} {Q : Option Value → Shared → Prop} (hh : A.handled = none) (he : IsEnum s.heap e it i old) (hit : s.heap.IsTupleIter it a i)
    (hT : s.heap.IsTuple a items) (hx : items[i]? = none) (hQ : ∀ h', Heap.ExtBut it s.heap h' → Q none { s with heap := h' }) : wpAny (model prog w) A (pyNext (.ref e)) Q E s := by
  have ty : s.TypeIs (.ref e) "enumerate" := ⟨_, he, rfl⟩
  unfold pyNext
  refine wpAny_bind (wpAny_attempt (wpAny_callSpecial?_slot (name := Str.ofString "__next__") ty F.slot_enumerate_next (wpAny_call_entry F.slot_enumerate_next ty F.entry_enumerate_next ?_ (F.args_enumerate_next_1 _))))
  show wpAny _ _ (field (.ref e) 2 >>= _) _ _ s
  refine wpAny_bind (wpAny_field he rfl (x := .ref it) rfl ?_)
  refine wpAny_bind (wpAny_nextOf_tuple_end hh hit hT hx fun h' x eb ⟨o, ho, hc⟩ => ?_)
  exact wpAny_bind (wpAny_isInstance (T := "StopIteration") (b := true) ⟨o, ho, hc⟩ isSubtype_stop (wpAny_pure (hQ _ eb)))
/-! ### enumerate(tuple) -/
def IteT (K : PySem.W.Frag) (a : Addr) : It :=
  ⟨fun i H => ∃ (xs : List V) (x : V), SqT K H a xs ∧ xs[i]? = some x, fun i H v H' => ∃ T x, v = .ref T ∧ H T = none ∧ H' = upd H T (.tup [.int (i : Nat), x]) ∧ ∀ xs, SqT K H a xs → xs[i]? = some x, fun i H => ∃ xs : List V, SqT K H a xs ∧ xs.length ≤ i⟩
theorem walk_enumT {K : PySem.W.Frag} {a : Addr} {xs : List V} : Walk (IteT K a) xs.length (fun H => SqT K H a xs) (YPair (fun i => some (.int (i : Nat))) (fun i => xs[i]?)) := by
  refine ⟨fun i _ hi q => ⟨xs, xs[i], q, List.getElem?_eq_getElem hi⟩, fun _ q => ⟨xs, q, Nat.le_refl _⟩, fun i H v H' _ q y => ?_⟩
  obtain ⟨T, x, h1, h2, h3, h4⟩ := y
  exact ⟨T, .int (i : Nat), x, h1, h2, h3, rfl, h4 xs q⟩
theorem turn_enumT {P : Program} {w : World} {K : PySem.W.Frag} {elts : List Expr} {kk : Nat} {tpos : Pos} (a e it : Addr) (items : Array Value) :
    Turn P w K (.Tuple elts kk tpos) (IteT K a) [e, it] e (fun i h => (∃ old, IsEnum h e it ((i : Nat) : Int) old) ∧ h.IsTupleIter it a i ∧ e ≠ it ∧ a ≠ it ∧ a ≠ e) where
  mem := by simp
  obj := fun i h st b hb => by
    obtain ⟨⟨old, he⟩, ⟨o, ho, hc, hd⟩, _⟩ := st
    have e' : b = e ∨ b = it := by simpa using hb
    rcases e' with z | z
    · rw [z]; exact ⟨_, he, fun v q => nomatch q⟩
    · rw [z]; exact ⟨o, ho, fun v q => by rw [hd] at q; cases q⟩
  keep := fun i h h' st k => let ⟨⟨old, he⟩, hi, hne⟩ := st; ⟨⟨old, k e (by simp) _ he⟩, hi.at fun o q => k it (by simp) o q, hne⟩
  item := by
    intro X hP hw hK hc i pins s σ H E I hf st hg
    subst hP hw hK
    obtain ⟨⟨old, he⟩, hit, hne, hai, hae⟩ := st
    obtain ⟨xs, x, hq, hx⟩ := hg
    obtain ⟨its, rv, p, hz⟩ := I.tuple hq
    obtain ⟨u, hu, ru⟩ := rv.get hx
    have hel : e < s.heap.objs.size := Heap.lt_size he
    have hil : it < s.heap.objs.size := by obtain ⟨_, q, _⟩ := hit; exact Heap.lt_size q
    have hT0 : s.heap.IsTuple a its.toArray := p
    have hlt : i < its.toArray.size := by
      have := (List.getElem?_eq_some_iff.mp hu).1
      simpa using this
    refine wpAny_pyNext_enum_itemD (Draws.tuple (A := X.A.in1) (I.ok.hd hc) it a hai its.toArray) he ⟨hit, hT0⟩ hlt hne (by simp [hne, Ne.symm hae]) fun y h' tk hy ho hst' hT hsz hk => ?_
    have ey : y = u := by
      have h2 : its.toArray[i]? = some u := by simpa using hu
      exact Option.some.inj (hy.symm.trans h2)
    subst ey
    refine ⟨_, rfl, wpAny_letOwnedTupleGo_enum (s := { s with heap := h', toks := tk + 1 }) ho fun h'' he' sb => ?_⟩
    have hT2 : h''.get? s.heap.objs.size = some { cls := .type "tuple", data := .seq #[.int i tk, y] } := (sb.2 _ (Nat.ne_of_gt hel)).trans hT
    have new : ObjOk X.prog X.w (upd H s.heap.objs.size (.tup [.int (i : Nat), x])) h'' s.heap.objs.size (.tup [.int (i : Nat), x]) :=
      ⟨by show 2 ≤ sizeLine; decide, [.int i tk, y], .cons ⟨_, rfl⟩ (.cons ru .nil), ⟨_, hT2, rfl, _, rfl⟩⟩
    have I1 : Inv X pins σ (upd H s.heap.objs.size (.tup [.int (i : Nat), x])) { s with heap := h'', toks := tk + 1 } :=
      I.turnedNew (ch := [e, it]) (fun b ob hb q => (sb.2 b (fun z => hb (by simp [z]))).trans (hk b ob (fun z => hb (by simp [z])) (fun z => hb (by simp [z])) q)) hf (Nat.le_refl _) new
    refine ⟨.ref s.heap.objs.size, _, I1, rfl, ⟨_, x, rfl, I.hok.fresh (Nat.le_refl _), rfl, fun ys hy' => ?_⟩, ⟨⟨y, ?_⟩, hst'.1.at fun o q => (sb.2 it (Ne.symm hne)).trans q, hne, hai, hae⟩, fun b hb => ?_⟩
    · rw [I.tuple_inj hy' hq]; exact hx
    · have e1 : ((i + 1 : Nat) : Int) = (i : Int) + 1 := by omega
      rw [e1]; exact he'
    · have hb' : b < s.heap.objs.size := by
        have e' : b = e ∨ b = it := by simpa using hb
        rcases e' with z | z
        · rw [z]; exact hel
        · rw [z]; exact hil
      rw [upd_ne (Nat.ne_of_lt hb')]
      exact (hf b hb).1
  done := by
    intro X hP hw hK hc i pins s σ H E I hf st hg
    subst hP hw hK
    obtain ⟨⟨old, he⟩, hit, hne, hai, hae⟩ := st
    obtain ⟨xs, hq, hx⟩ := hg
    obtain ⟨its, rv, p, hz⟩ := I.tuple hq
    obtain ⟨f0, f1, f2, f3, f4, f5⟩ := hf it (by simp)
    have hl := rv.length
    refine enum_endT (I.ok.hd hc) he hit p (by simp; omega) fun h' eb => ⟨rfl, I.turned (t' := s.toks) (fun b o hb q => eb b o hb q) f0 f1 f3 f4 f5⟩
  self := fun A i s Q E st h => let ⟨⟨_, he⟩, _⟩ := st; wpAny_pyIter_enum he h
def iEnumT (K : PySem.W.Frag) (ta : TA) : TI := fun σ H R => ta σ H fun vs H1 => ∃ a xs, vs = [.ref a] ∧ SqT K H1 a xs ∧ R (IteT K a) H1
theorem pi_enumT {X : Cx} {e : Expr} {ta : TA} {p pos tpos : Pos} {elts : List Expr} {kk : Nat} (hg : Gl X "enumerate") (hm : X.mg "enumerate" = none) (ha : PA X [e] ta) (hs : starEach [e] X.env = [(false, eval e X.env)] := by rfl) :
    PI X (.Tuple elts kk tpos) (.Call (.Name "enumerate" p) [e] [] pos) (iEnumT X.K ta) := by
  refine ⟨fun pins s σ H R I h => ?_⟩
  refine Call_ (ld_blt I hg hm boot_enumerate (PyProof.Rows.callWith_type1 (thn (ha.run pos pins s σ H _ I h) fun us s1 ⟨vs, H1, I1, r1, q1⟩ => ?_) hs rfl))
  obtain ⟨a, xs, ex, hq, q⟩ := q1
  subst ex
  cases r1 with
  | cons r rr =>
    cases rr
    cases r
    obtain ⟨its, rv, p', hz⟩ := I1.tuple hq
    have hT0 : s1.heap.IsTuple a its.toArray := p'
    have hal : a < s1.heap.objs.size := by obtain ⟨_, q0, _⟩ := hT0; exact Heap.lt_size q0
    refine enum_call (begins_tuple a its.toArray) hT0 fun h' he hit hk => wpAny_pyIter_enum he ?_
    have I2 : Inv X pins σ H1 { s1 with heap := h' } := I1.kept (t' := s1.toks) hk
    refine ⟨s1.heap.objs.size + 1, [s1.heap.objs.size + 1, s1.heap.objs.size], _, _, H1, rfl, I2, turn_enumT a (s1.heap.objs.size + 1) s1.heap.objs.size its.toArray, ⟨⟨.none, he⟩, ⟨_, hit, rfl, rfl⟩, Nat.succ_ne_self _, Nat.ne_of_lt hal, Nat.ne_of_lt (Nat.lt_succ_of_lt hal)⟩, fun b hb => ?_, q⟩
    have e' : b = s1.heap.objs.size + 1 ∨ b = s1.heap.objs.size := by simpa using hb
    have hle : s1.heap.objs.size ≤ b := by
      rcases e' with z | z
      · rw [z]; exact Nat.le_add_right _ _
      · rw [z]; exact Nat.le_refl _
    exact I1.fpOk hle (I1.hok.fresh hle)
end GE

set_option Elab.async false
set_option linter.all false
set_option maxRecDepth 100000
set_option maxHeartbeats 2000000
/-! sorted: tuples of ints of any length; x in a tuple of data -/
namespace GE
open PySem PySem.Spec PyProof.Rows L2
/-- as Python orders lists of ints -/
def lexL : List Int → List Int → Bool
  | [], [] => false
  | [], _ :: _ => true
  | _ :: _, [] => false
  | x :: xs, y :: ys => if x = y then lexL xs ys else decide (x < y)
theorem lexL_asym : ∀ x y : List Int, lexL x y = true → lexL y x = false
  | [], [], h => by cases h
  | [], _ :: _, _ => rfl
  | _ :: _, [], h => by cases h
  | x :: xs, y :: ys, h => by
    unfold lexL at h ⊢
    by_cases e : x = y
    · rw [if_pos e] at h; rw [if_pos e.symm]; exact lexL_asym xs ys h
    · rw [if_neg e] at h; rw [if_neg (fun z => e z.symm)]
      have := of_decide_eq_true h
      exact decide_eq_false (by omega)
theorem lexL_tr : ∀ x y z : List Int, lexL y x = false → lexL z y = false → lexL z x = false
  | [], y, [], _, _ => rfl
  | [], [], _ :: _, _, h => rfl
  | [], _ :: _, _ :: _, _, _ => rfl
  | _ :: _, [], [], h, _ => by cases h
  | _ :: _, _ :: _, [], _, h => by cases h
  | _ :: _, [], _ :: _, h, _ => by cases h
  | x :: xs, y :: ys, z :: zs, h1, h2 => by
    unfold lexL at h1 h2 ⊢
    by_cases e1 : y = x
    · by_cases e2 : z = y
      · rw [if_pos e1] at h1; rw [if_pos e2] at h2; rw [if_pos (e2.trans e1)]; exact lexL_tr xs ys zs h1 h2
      · rw [if_neg e2] at h2; rw [if_neg (fun q => e2 (q.trans e1.symm))]
        have := of_decide_eq_false h2
        exact decide_eq_false (by omega)
    · rw [if_neg e1] at h1
      have a := of_decide_eq_false h1
      by_cases e2 : z = y
      · rw [if_neg (fun q => e1 (e2.symm.trans q))]; exact decide_eq_false (by omega)
      · rw [if_neg e2] at h2
        have b := of_decide_eq_false h2
        rw [if_neg (by omega)]
        exact decide_eq_false (by omega)
theorem lexL_total : ∀ x y : List Int, lexL x y = false → lexL y x = false → x = y
  | [], [], _, _ => rfl
  | [], _ :: _, h, _ => by cases h
  | _ :: _, [], _, h => by cases h
  | x :: xs, y :: ys, h1, h2 => by
    unfold lexL at h1 h2
    by_cases e : x = y
    · subst e
      rw [if_pos rfl] at h1 h2
      rw [lexL_total xs ys h1 h2]
    · rw [if_neg e] at h1; rw [if_neg (fun z => e z.symm)] at h2
      have a := of_decide_eq_false h1
      have b := of_decide_eq_false h2
      omega
theorem lexL_swo {α : Type} (k : α → List Int) : SrtO.Swo fun v u => lexL (k v) (k u) := ⟨fun x y => lexL_asym _ _, fun x y z h1 h2 => lexL_tr _ _ _ h1 h2⟩
section
variable {prog : Program} {w : World} {A : Around} {E : Value → Shared → Prop} {s : Shared}
theorem kat_lex {Q : Bool → Shared → Prop} {b fin : Bool} {xs ys : List Value} {ns ms : List Int} (i : Nat) (hx : IntsAre xs ns) (hy : IntsAre ys ms) (hf : fin = decide (ns.length < ms.length)) (h : Q (lexL ns ms) s) :
    PySem.W.KatLex prog w A b fin Q (xs.zip ys) i s := by
  induction hx generalizing ys ms i with
  | nil =>
    cases hy with
    | nil => exact PySem.W.kat_nil (by rw [hf]; exact h)
    | cons q u hy => exact PySem.W.kat_nil (by rw [hf, decide_eq_true (by simp)]; exact h)
  | @cons p t xs ns hx ih =>
    cases hy with
    | nil => exact PySem.W.kat_nil (by rw [hf, decide_eq_false (by simp)]; exact h)
    | @cons q u ys ms hy =>
      refine PySem.W.kat_cons (SeqAt.EqAt.int_int p t q u prog w _ _ ?_)
      refine PySem.W.kat_go (fun e1 => ?_) (fun e1 => ?_)
      · have ex : p = q := by simpa using e1
        have e3 : lexL (p :: ns) (q :: ms) = lexL ns ms := if_pos ex
        rw [e3] at h
        exact PySem.W.kat_yes (ih (i + 1) hy (by rw [hf]; simp) h)
      · have ex : ¬ p = q := by simpa using e1
        have e3 : lexL (p :: ns) (q :: ms) = decide (p < q) := if_neg ex
        rw [e3] at h
        exact PySem.W.kat_no (TS.oneLt_ints _ h)
theorem tups_cmp {vs : List Value} {k : Value → List Int} (hp : ∀ v ∈ vs, TS.TupInts s.heap v (k v)) : SrtO.Cmp prog w A s (tuples' true) (fun p => p.1 ∈ vs) (SrtO.lt2 fun v u => lexL (k v) (k u)) := by
  intro p q hm hm'
  obtain ⟨a, xs, e, ⟨o, ho, hc, n, hd⟩, hx⟩ := hp _ hm
  obtain ⟨a', ys, e', ⟨o', ho', hc', n', hd'⟩, hy⟩ := hp _ hm'
  show wpAny (model prog w) A (keyLt' (tuples' true) p.1 q.1) (fun r s' => s' = s ∧ r = lexL (k p.1) (k q.1)) (fun _ _ => False) s
  rw [show keyLt' (tuples' true) p.1 q.1 = keyLt' (tuples' true) (.ref a) (.ref a') from by rw [e, e']]
  refine PySem.W.kat_lt ho hd ho' hd' (kat_lex 0 hx hy ?_ ⟨rfl, rfl⟩)
  have l1 := hx.length
  have l2 := hy.length
  rw [Array.length_toList] at l1 l2
  rw [l1, l2]
theorem tups_firsts {h : Heap} {k : Value → List Int} : ∀ vs : List Value, (∀ v ∈ vs, TS.TupInts h v (k v) ∧ k v ≠ []) → ∃ fs, PySem.W.KatTups h vs fs ∧ fs.length = vs.length ∧ ∀ f ∈ fs, ∃ n t, f = Value.int n t
  | [], _ => ⟨[], PySem.W.KatTups.nil, rfl, fun f hf => by simp at hf⟩
  | v :: vs, x => by
    obtain ⟨fs, kt, hl, hi⟩ := tups_firsts (h := h) (k := k) vs fun u hu => x u (List.mem_cons_of_mem _ hu)
    obtain ⟨⟨a, xs, rfl, ⟨o, ho, hc, n, hdt⟩, i⟩, hne⟩ := x v List.mem_cons_self
    obtain ⟨y, ys, e⟩ : ∃ y ys, xs.toList = y :: ys := by
      cases q : xs.toList with
      | nil =>
        rw [q] at i
        have l := i.length
        exact absurd (List.eq_nil_of_length_eq_zero l.symm) hne
      | cons y ys => exact ⟨y, ys, rfl⟩
    obtain ⟨m, t, hy⟩ := i.all y (by rw [e]; exact List.mem_cons_self)
    refine ⟨y :: fs, PySem.W.KatTups.cons ho hc hdt ?_ kt, by rw [List.length_cons, List.length_cons, hl], fun f hf => ?_⟩
    · have z := congrArg (fun l : List Value => l[0]?) e
      simpa using z
    · rcases List.mem_cons.mp hf with q | q
      · exact ⟨m, t, q.trans hy⟩
      · exact hi f q
theorem tups_sortable {a : Addr} {vs : List Value} {k : Value → List Int} (h2 : 2 ≤ vs.length) (hp : ∀ v ∈ vs, TS.TupInts s.heap v (k v) ∧ k v ≠ []) (ha : ∀ o, s.heap.get? a = some o → o.cls ≠ .type "tuple") : SrtO.SortableO prog w A s a vs fun v u => lexL (k v) (k u) := by
  intro h' keep
  have hp' : ∀ v ∈ vs, TS.TupInts h' v (k v) ∧ k v ≠ [] := fun v hm => ⟨(hp v hm).1.keeps fun b o e c => keep b o (fun z => by subst z; exact ha o e c) e, (hp v hm).2⟩
  obtain ⟨fs, k1, k2, k3⟩ := tups_firsts vs hp'
  refine ⟨tuples' true, fun Q E hq => ?_, tups_cmp fun v hv => (hp' v hv).1⟩
  refine PySem.W.kat_kind (T := .type "int") k1 (by omega) (fun f hm => ?_) (by rfl) ?_
  · obtain ⟨x, t, rfl⟩ := k3 f hm
    exact PySem.W.Looks.now
  · have e : (Value.type "int" != Value.type "tuple") = true := by first | decide +kernel | rfl | decide
    rw [e]
    exact hq
end
/-- sorted(xs), xs a list of tuples of ints, none empty: a new list of the same, in Python's order -/
def rSortL (K : PySem.W.Frag) : List V → Hp → VK → Prop := fun vs H Q => ∃ (a : Addr) (xs : List V) (k : V → List Int), vs = [V.ref a] ∧ SqL K H a xs ∧ (∀ x ∈ xs, ∃ t, x = V.ref t ∧ SqT K H t ((k x).map V.int) ∧ k x ≠ []) ∧
  ∀ ys p, ys.Perm xs → SrtO.Srtd (fun x y => lexL (k x) (k y)) ys → H p = none → Q (.ref p) (upd H p (.lst ys))
section
variable {X : Cx}
theorem cr_sortL : CallR X (.builtin "sorted") (rSortL X.K) := by
  intro pins s σ H vs us Q I r h
  obtain ⟨a, xs, k, rfl, hs, hx, q⟩ := h
  obtain ⟨its, rv, hl, hz⟩ := I.list hs
  obtain ⟨u, rfl, ru⟩ := vals1 r
  obtain rfl : u = Value.ref a := ru
  obtain ⟨e1, e2⟩ := refs_back rv fun x m => by
    obtain ⟨t, e, _⟩ := hx x m
    exact ⟨t, e⟩
  have hp : ∀ v ∈ its, TS.TupInts s.heap v (k (backV v)) ∧ k (backV v) ≠ [] := fun v hv => by
    obtain ⟨t, rfl⟩ := e2 v hv
    have hm : V.ref t ∈ xs := by rw [e1]; exact List.mem_map.mpr ⟨_, hv, rfl⟩
    obtain ⟨t', e, ht, hne⟩ := hx _ hm
    cases e
    exact ⟨tupI_raw I ht, hne⟩
  refine SrtO.sorted_ord (lexL_swo fun u => k (backV u)) hl.isList (by rw [← rv.length]; exact hz) (fun h2 h₁ b hb kk => ?_) fun out h1 h2 => ?_
  · refine tups_sortable (s := { s with heap := h₁ }) (by omega) (fun v hm => ⟨(hp v hm).1.keeps fun c o e _ => (kk c o e).2, (hp v hm).2⟩) fun o e => ?_
    have e' : some o = some (seqObj "list" its.toArray 0) := e.symm.trans hb
    cases e'
    intro c
    exact absurd (Value.type.inj c) (by decide)
  · have kp : ∀ b o, s.heap.get? b = some o → (PyProof.Rows.sortedAll s.heap its out.toArray).get? b = some o := fun b o e => PyProof.Rows.sortedAll_old e
    have hd : s.heap.objs.size ≤ s.heap.objs.size + 1 := Nat.le_succ _
    obtain ⟨n, hn⟩ := PyProof.Rows.sortedAll_at s.heap its out.toArray
    have h3 : ∀ u ∈ out, ∃ a, u = Value.ref a := fun u hu => e2 u (h2.perm.mem_iff.mp hu)
    have hb : SrtO.Stb (fun x y => lexL (k x) (k y)) (out.map backV) xs := by
      rw [e1]
      exact SrtO.Stb.map (lexL_swo k) backV h2
    refine ⟨.ref (s.heap.objs.size + 1), upd H (s.heap.objs.size + 1) (.lst (out.map backV)), I.laid (t' := s.toks) kp hd ⟨?_, out, n, vals_back h3, hn⟩, rfl, q _ _ hb.perm (SrtO.srtd_map h1) (I.hok.fresh hd)⟩
    rw [hb.len]
    exact hz
/-! ### x in a tuple of data -/
def rInDT (K : PySem.W.Frag) (neg : Bool) : R2 := fun x y H Q => ∃ d ds, Dp K H x d ∧ Dp K H y (.tuple ds) ∧ SeqAt.shaped d = true ∧ SeqAt.shaped (.tuple ds) = true ∧ Q (.bl (if neg then !(ds.any fun z => PyData.eqv z d) else ds.any fun z => PyData.eqv z d)) H
theorem op_inDT (hu : X.A.units + 65 < cLine) : OpR X (compareOp .In) (rInDT X.K false) := by
  intro pins s σ H x y v u Q I rx ry h
  obtain ⟨d, ds, hd, he, sd, se, q⟩ := h
  obtain ⟨as, r1⟩ := Dp.reads I d x v hd rx
  obtain ⟨bs, r2⟩ := Dp.reads I (.tuple ds) y u he ry
  exact SeqAt.in_tuple_reads r2 r1 (SeqAt.canLay_of_shaped se) (SeqAt.canLay_of_shaped sd) (room_in_shaped sd hu) ⟨.bl _, H, I, rfl, q⟩
theorem op_notInDT (hu : X.A.units + 65 < cLine) : OpR X (compareOp .NotIn) (rInDT X.K true) := by
  intro pins s σ H x y v u Q I rx ry h
  obtain ⟨d, ds, hd, he, sd, se, q⟩ := h
  obtain ⟨as, r1⟩ := Dp.reads I d x v hd rx
  obtain ⟨bs, r2⟩ := Dp.reads I (.tuple ds) y u he ry
  exact SeqAt.notIn_tuple_reads r2 r1 (SeqAt.canLay_of_shaped se) (SeqAt.canLay_of_shaped sd) (room_in_shaped sd hu) ⟨.bl _, H, I, rfl, q⟩
end
end GE

set_option Elab.async false
set_option linter.all false
set_option maxRecDepth 100000
set_option maxHeartbeats 2000000
/-! sorted(tuple of ints) -/
namespace GE
open PySem PySem.Spec PyProof.Rows L2
section
variable {prog : Program} {w : World} {A : Around} {E : Value → Shared → Prop} {s : Shared}
theorem collect_tupV {l : Addr} {vs : List Value} {Q : List Value → Shared → Prop} (hl : s.heap.IsTuple l vs.toArray)
    (h : Q vs { s with heap := (s.heap.push (seqObj "list" #[] 0)).update s.heap.objs.size (Obj.mapSeq (· ++ vs.toArray)) }) (hsz : vs.length ≤ sizeLine) : wpAny (model prog w) A (collect (.ref l)) Q E s := by
  obtain ⟨o, ho, hc, n, hd⟩ := id hl
  have ho' : (s.heap.push (seqObj "list" #[] 0)).get? l = some o := Heap.get?_push_of_some _ ho
  have hn0 : (s.heap.push (seqObj "list" #[] 0)).get? s.heap.objs.size = some (seqObj "list" #[] 0) := Heap.get?_push_size _ rfl
  unfold collect
  refine wpAny_bind (wpAny_runValue (codeAny_builtin entry_proto_collect' ?_))
  show wpAny _ _ (do again (.builtin "list.__iadd__" ⟨[← newList [], .ref l], []⟩)) _ _ s
  refine wpAny_bind (wpAny_newList (wpAny_pure ⟨Code.quiet_builtin _ (by decide +kernel), codeAny_builtin entry_list_iadd' ?_⟩))
  show wpAny _ _ (Builtin.List.listExtendWith (.ref s.heap.objs.size) (.ref l) (.ref s.heap.objs.size)) _ _ { s with heap := s.heap.push (seqObj "list" #[] 0) }
  unfold Builtin.List.listExtendWith
  refine wpAny_bind (wpAny_typeOf (T := "tuple") ⟨o, ho', hc⟩ ?_)
  have ht : (Value.type "tuple" == Value.type "tuple") = true := by rfl
  rw [if_pos (by rw [ht]; simp)]
  refine wpAny_bind (listItems_at ho' hd (wpAny_bind (listItems_at (xs := #[]) (n := 0) hn0 rfl ?_)))
  rw [if_neg (by simp)]
  have hb : (#[] ++ vs.toArray).size ≤ sizeLine + 1 := by simp only [Array.size_append, List.size_toArray, List.length_nil]; omega
  refine wpAny_bind (listUpdate_at (xs := #[]) (n := 0) hn0 rfl (wpAny_pure ?_) (Nat.zero_le _) hb)
  show wpAny (model prog w) A (load s.heap.objs.size >>= fun o => match o.data with | .seq xs _ => pure xs.toList | _ => unsupported "internal:collect") Q E _
  refine wpAny_bind (wpAny_load (get?_update_seq hn0 _) ?_)
  show wpAny (model prog w) A (pure ((#[] : Array Value) ++ vs.toArray).toList) Q E _
  have e : ((#[] : Array Value) ++ vs.toArray).toList = vs := by simp
  rw [e]; exact wpAny_pure h
theorem sorted_ordT {l : Addr} {vs : List Value} {ltv : Value → Value → Bool} {Q : Value → Shared → Prop} (O : SrtO.Swo ltv) (hl : s.heap.IsTuple l vs.toArray) (hz : vs.length ≤ sizeLine)
    (hS : 2 ≤ vs.length → ∀ (h₁ : Heap) (a : Addr), SrtO.SortableO prog w A.in1.in1 { s with heap := h₁ } a vs ltv)
    (h : ∀ out : List Value, SrtO.Srtd ltv out → SrtO.Stb ltv out vs → Q (.ref (s.heap.objs.size + 1)) { s with heap := PyProof.Rows.sortedAll s.heap vs out.toArray }) :
    wpAny (model prog w) A (call (.builtin "sorted") [.ref l]) Q E s := by
  refine Calls.call_function_entry kind_sorted plain_sorted entry_sorted (args_sorted1 _) ?_
  unfold Builtin.«sorted»
  refine wpAny_bind (m := checkCount "sorted" 1 1 _) (wpAny_pure ?_)
  refine wpAny_bind (collect_tupV hl (wpAny_bind (wpAny_newList ?_ hz)) hz)
  have hsz : ((s.heap.push (seqObj "list" #[] 0)).update s.heap.objs.size (Obj.mapSeq (· ++ vs.toArray))).objs.size = s.heap.objs.size + 1 := by rw [Heap.size_update]; exact Heap.size_push ..
  have hoL : (((s.heap.push (seqObj "list" #[] 0)).update s.heap.objs.size (Obj.mapSeq (· ++ vs.toArray))).push (seqObj "list" vs.toArray 0)).get? (s.heap.objs.size + 1) = some (seqObj "list" vs.toArray 0) := by rw [← hsz]; exact Heap.get?_push_size _ rfl
  show wpAny _ _ _ _ _ { s with heap := ((s.heap.push (seqObj "list" #[] 0)).update s.heap.objs.size (Obj.mapSeq (· ++ vs.toArray))).push (seqObj "list" vs.toArray 0) }
  rw [hsz]
  have fin := SrtO.list_sort_ord (prog := prog) (w := w) (A := A.in1.in1) (E := E) (s := { s with heap := ((s.heap.push (seqObj "list" #[] 0)).update s.heap.objs.size (Obj.mapSeq (· ++ vs.toArray))).push (seqObj "list" vs.toArray 0) }) (R := fun fin s' => ∃ v, fin = .done (.ret v) ∧ Q (.ref (s.heap.objs.size + 1)) s') O hoL hz (fun h2 => hS h2 _ _) fun out hs hb => ⟨_, rfl, h out hs hb⟩
  refine wpAny_bind (wpAny_holding (wpAny_call_entry slot_list_sort ⟨_, hoL, rfl⟩ entry_list_sort (wpAny_mono fin (fun f s' ⟨v, e, q⟩ => ⟨v, e, wpAny_pure ⟨_, rfl, q⟩⟩) fun _ _ x => x) (args_list_sort _)))
end
/-- sorted(t), t a tuple of ints -/
def rSortedTI (K : PySem.W.Frag) : List V → Hp → VK → Prop := fun vs H Q => ∃ (a : Addr) (ns : List Int), vs = [V.ref a] ∧ SqT K H a (ns.map V.int) ∧
  ∀ (ms : List Int) (p : Addr), ms.Perm ns → ms.Pairwise (· ≤ ·) → H p = none → Q (.ref p) (upd H p (.lst (ms.map V.int)))
theorem cr_sortedTI {X : Cx} : CallR X (.builtin "sorted") (rSortedTI X.K) := by
  intro pins s σ H vs us Q I r h
  obtain ⟨a, ns, rfl, hs, q⟩ := h
  obtain ⟨its, rv, hl, hz⟩ := I.tuple hs
  rw [Vals.ref1 r]
  have hi := rv.ints
  have hz' : its.length ≤ sizeLine := by rw [← rv.length]; exact hz
  refine sorted_ordT SrtO.swo_int (show s.heap.IsTuple a its.toArray from hl) hz' (fun h2 h₁ a' => SrtO.ints_sortable hi h2) fun out h1 h2 => ?_
  obtain ⟨k1, k2, k3⟩ := SrtO.ints_out hi h1 h2
  obtain ⟨ep, he'⟩ := PyProof.Rows.sortedAll_at s.heap its out.toArray
  have hlen : ((out.map SrtO.iv).map V.int).length ≤ sizeLine := by
    rw [List.length_map, k2.length_eq]; rw [List.length_map] at hz; exact hz
  have kp : ∀ b o, s.heap.get? b = some o → (PyProof.Rows.sortedAll s.heap its out.toArray).get? b = some o := fun _ _ => PyProof.Rows.sortedAll_old
  exact ⟨.ref _, upd H (s.heap.objs.size + 1) (.lst ((out.map SrtO.iv).map V.int)), I.laid (t' := s.toks) kp (Nat.le_succ _) ⟨hlen, out, ep, vals_of_ints k1, he'⟩, rfl, q _ _ k2 k3 (I.hok.fresh (Nat.le_succ _))⟩
/-- an attribute, the fragment named -/
theorem pe_fldK {X : Cx} {K : PySem.W.Frag} {e : Expr} {ta : TE} {f : Str} {pos : Pos} (he : PE X e ta) (hb : attributeBase e f X.env (eval e X.env) = eval e X.env) (h : X.K = K := by rfl) : PE X (.Attribute e f pos) (tFld K ta f) := h ▸ pe_fld he hb
/-- a statement that is never reached -/
theorem ps_no {X : Cx} {st : Stmt} : PS X st (fun _ _ _ => False) := ⟨fun _ _ _ _ _ _ h => h.elim⟩
end GE

set_option linter.all false
namespace Mw
/-! ### the growth with fines: what holds of it -/
/-- as GM, the parts of time (t) and the bounds (b) told apart -/
structure GB (n : Nat) (ws : Wl) (t b : Nat) (S : Gs) : Prop where
  hom : ∃ es, Hom n es S.h
  dv : ∀ p, ut t ∣ S.dep p
  dt : ut t ∣ S.time
  dw : ∀ kw ∈ S.wid, ut t ∣ kw.2
  d0 : ∀ p, 0 ≤ S.dep p ∧ S.dep p ≤ b * 40960000
  t0 : 0 ≤ S.time ∧ S.time ≤ b * 40960000
  w0 : ∀ kw ∈ S.wid, 0 < kw.2 ∧ kw.2 ≤ b * 40960000
  lk : ∀ c, c < ws.length → crosses ws S c = true → 0 ≤ lack ws S c
  sum : ∀ p, p < n → S.dep p = wsum p S.wid
  key : ∀ kw ∈ S.wid, (∀ x ∈ kw.1, x < n ∧ ∀ y ∈ kw.1, S.h x = S.h y) ∧ kw.1 ≠ [] ∧ kw.1.Pairwise (· < ·)
theorem GM.b {n t : Nat} {ws : Wl} {S : Gs} (G : GM n ws t S) : GB n ws t t S := ⟨G.hom, G.dv, G.dt, G.dw, G.d0, G.t0, G.w0, G.lk, G.sum, G.key⟩
theorem ut_dvd {t t' : Nat} (h : t ≤ t') : ut t' ∣ ut t := by
  unfold ut
  refine ⟨2 ^ (12 - t - (12 - t')), ?_⟩
  rw [← Int.pow_add]
  congr 1
  omega
theorem GB.take {n t b : Nat} {ws : Wl} {S : Gs} (W : WsOk n ws) (G : GB n ws t b S) {c : Nat} (hc : c < ws.length) (hx : crosses ws S c = true) :
    GB n ws t b (take1 ws S c) ∧ (reps (take1 ws S c).h n).length < (reps S.h n).length := by
  obtain ⟨es, H⟩ := G.hom
  obtain ⟨w1, w2, _⟩ := W.ok c hc
  have ha : (way ws c).1 < n := Nat.lt_trans w1 w2
  refine ⟨⟨⟨_, H.step ha w2⟩, G.dv, G.dt, G.dw, G.d0, G.t0, G.w0, fun d hd hcr => ?_, G.sum, fun kw hk => ?_⟩, reps_less H ha w2 (of_decide_eq_true hx)⟩
  · refine G.lk d hd (decide_eq_true fun z => ?_)
    obtain ⟨v1, v2, _⟩ := W.ok d hd
    exact of_decide_eq_true hcr (relab_same H ha w2 (Nat.lt_trans v1 v2) v2 z)
  · obtain ⟨k1, k2, k3⟩ := G.key kw hk
    exact ⟨fun x hx => ⟨(k1 x hx).1, fun y hy => relab_same H ha w2 (k1 x hx).1 (k1 y hy).1 ((k1 x hx).2 y hy)⟩, k2, k3⟩
theorem GB.takeAll {n t b : Nat} {ws : Wl} (W : WsOk n ws) : ∀ {k : Nat} {S : Gs}, GB n ws t b S → (reps S.h n).length ≤ k → GB n ws t b (takeAll ws k S) ∧ first ws (takeAll ws k S) = none ∧ (reps (takeAll ws k S).h n).length ≤ (reps S.h n).length ∧
    (∀ c, first ws S = some c → (reps (takeAll ws k S).h n).length < (reps S.h n).length)
  | 0, S, G, hk => by
    have hno : first ws S = none := by
      cases e : first ws S with
      | none => rfl
      | some c =>
        obtain ⟨hc, hx, _⟩ := first_some e
        have := (G.take W hc hx).2
        omega
    exact ⟨G, hno, Nat.le_refl _, fun c e => by rw [hno] at e; cases e⟩
  | k + 1, S, G, hk => by
    cases e : first ws S with
    | none =>
      have e2 : Mw.takeAll ws (k + 1) S = S := by show (match first ws S with | none => S | some c => _) = S; rw [e]
      rw [e2]
      exact ⟨G, e, Nat.le_refl _, fun c e => by cases e⟩
    | some c =>
      have e2 : Mw.takeAll ws (k + 1) S = Mw.takeAll ws k (take1 ws S c) := by show (match first ws S with | none => S | some c => _) = _; rw [e]
      obtain ⟨hc, hx, _⟩ := first_some e
      obtain ⟨G2, hlt⟩ := G.take W hc hx
      obtain ⟨h1, h2, h3, _⟩ := GB.takeAll W (k := k) G2 (by omega)
      rw [e2]
      exact ⟨h1, h2, by omega, fun _ _ => by omega⟩
theorem GB.lack_dvd {n t b : Nat} {ws : Wl} {S : Gs} (G : GB n ws t b S) (c : Nat) : ut t ∣ lack ws S c := by
  unfold lack
  exact Int.dvd_sub (Int.dvd_trans (ut_4096 t) (Int.dvd_mul_left _ _)) (Int.dvd_add (G.dv _) (G.dv _))
theorem GB.cand_eq {n t b : Nat} {ws : Wl} {S : Gs} (G : GB n ws t b S) (ht : t < 12) (R : List Nat) {c : Nat} (hs : 0 < spd ws S R c) : cand ws S R c * (spd ws S R c : Int) = lack ws S c ∧ ut (t + 1) ∣ cand ws S R c := by
  obtain ⟨m, hm⟩ := G.lack_dvd c
  rw [ut_succ ht] at hm
  have h2 := spd_le ws S R c
  unfold cand
  generalize spd ws S R c = s at hs h2
  rcases (show s = 1 ∨ s = 2 by omega) with rfl | rfl
  · have e1 : ((1 : Nat) : Int) = 1 := rfl
    rw [e1, Int.ediv_one, Int.mul_one]
    exact ⟨rfl, ⟨2 * m, by rw [hm, Int.mul_comm 2, Int.mul_assoc]⟩⟩
  · have e1 : lack ws S c / ((2 : Nat) : Int) = ut (t + 1) * m := by
      rw [hm, Int.mul_assoc]
      exact Int.mul_ediv_cancel_left _ (by decide)
    rw [e1]
    refine ⟨?_, ⟨m, rfl⟩⟩
    rw [hm]
    show ut (t + 1) * m * 2 = _
    rw [Int.mul_comm, ← Int.mul_assoc]
/-- any span up to the next full way -/
theorem GB.grow {n t t' b b' : Nat} {ws : Wl} {S : Gs} {R : List Nat} {x : Int} (G : GB n ws t b S) (hRok : ∀ r ∈ R, r < n ∧ S.h r = r) (hnd : R.Nodup) (ht : t ≤ t') (e2 : ut t' ∣ x) (hx0 : 0 < x) (hb : (b : Int) * 40960000 + x ≤ (b' : Int) * 40960000)
    (hl : ∀ c, c < ws.length → crosses ws S c = true → x * (spd ws S R c : Int) ≤ lack ws S c) : GB n ws t' b' (Mw.grow n S R x) := by
  have hcls : ∀ r ∈ R, ∀ p, p < n → (p ∈ cls S.h n r ↔ S.h p = r) := fun r hr p hp => by
    rw [mem_cls, (hRok r hr).2]; exact ⟨fun z => z.2, fun z => ⟨hp, z⟩⟩
  have dvd1 : ∀ z : Int, ut t ∣ z → ut t' ∣ z := fun z h => Int.dvd_trans (ut_dvd ht) h
  refine ⟨G.hom, fun p => ?_, Int.dvd_add (dvd1 _ G.dt) e2, fun kw hk => ?_, fun p => ?_, ?_, fun kw hk => ?_, fun c hc hcr => ?_, fun p hp => ?_, fun kw hk => ?_⟩
  · show ut t' ∣ S.dep p + if S.h p ∈ R then x else 0
    refine Int.dvd_add (dvd1 _ (G.dv p)) ?_
    split
    · exact e2
    · exact Int.dvd_zero _
  · rcases mem_grow hk hnd hRok with q | ⟨r, hr, q1, q2 | ⟨v, q2, q3⟩⟩
    · exact dvd1 _ (G.dw kw q)
    · rw [q2]; exact e2
    · rw [q3]; exact Int.dvd_add (dvd1 _ (G.dw _ q2)) e2
  · have := G.d0 p
    show 0 ≤ S.dep p + (if S.h p ∈ R then x else 0) ∧ S.dep p + (if S.h p ∈ R then x else 0) ≤ (b' : Int) * 40960000
    split <;> omega
  · have := G.t0
    show 0 ≤ S.time + x ∧ S.time + x ≤ (b' : Int) * 40960000
    omega
  · rcases mem_grow hk hnd hRok with q | ⟨r, hr, q1, q2 | ⟨v, q2, q3⟩⟩
    · have := G.w0 kw q
      constructor <;> omega
    · rw [q2]; constructor <;> omega
    · have := G.w0 _ q2
      rw [q3]; constructor
      · have : 0 < v := this.1
        omega
      · have : v ≤ (b : Int) * 40960000 := this.2
        omega
  · rw [lack_grow]
    have := hl c hc hcr
    omega
  · show S.dep p + (if S.h p ∈ R then x else 0) = wsum p (R.foldl (fun w r => addW w (cls S.h n r) x) S.wid)
    rw [wsum_grow, G.sum p hp]
    congr 1
    have e : R.map (fun r => if p ∈ cls S.h n r then x else 0) = R.map (fun r => if r = S.h p then x else 0) := List.map_congr_left fun r hr => by
      by_cases z : S.h p = r
      · rw [if_pos ((hcls r hr p hp).mpr z), if_pos z.symm]
      · rw [if_neg (fun y => z ((hcls r hr p hp).mp y)), if_neg (fun y => z y.symm)]
    rw [e, sum_one x (S.h p) hnd]
  · rcases mem_grow hk hnd hRok with q | ⟨r, hr, q1, _⟩
    · exact G.key kw q
    · rw [q1]
      refine ⟨fun y hy => ⟨(mem_cls.mp hy).1, fun z hz => (mem_cls.mp hy).2.trans (mem_cls.mp hz).2.symm⟩, List.ne_nil_of_mem (mem_cls.mpr ⟨(hRok r hr).1, rfl⟩), cls_pw _ _ _⟩
end Mw

set_option linter.all false
namespace Mw
/-! ### the growth with fines, as functions (amounts in parts of 4096) -/
abbrev Keys := List (List Nat)
def inK (k c : List Nat) : Bool := k.all fun x => decide (x ∈ c)
def usedW (c : List Nat) (l : List (List Nat × Int)) : Int := ((l.filter fun kw => inK kw.1 c).map (·.2)).sum
def fineS (fs c : List Nat) : Int := (c.map fun x => ((fs.getD x 0 : Nat) : Int)).sum
def rest (fs : List Nat) (S : Gs) (c : List Nat) : Int := fineS fs c * 4096 - usedW c S.wid
def awk (n root : Nat) (fs : List Nat) (S : Gs) : List Nat := (reps S.h n).filter fun r => decide (root ∉ cls S.h n r) && decide (0 < rest fs S (cls S.h n r))
def note1 (root : Nat) (fs : List Nat) (S : Gs) (l : Keys) (c : List Nat) : Keys := if root ∉ c ∧ ¬ 0 < rest fs S c ∧ c ∉ l then l ++ [c] else l
def noteL (root : Nat) (fs : List Nat) (S : Gs) (l cs : Keys) : Keys := cs.foldl (note1 root fs S) l
def born (ws : Wl) (n : Nat) : Nat → Gs → Keys
  | 0, _ => []
  | k + 1, S => match first ws S with
    | none => []
    | some c => cls (take1 ws S c).h n (way ws c).1 :: born ws n k (take1 ws S c)
def spanF (n root : Nat) (fs : List Nat) (ws : Wl) (S : Gs) : Int :=
  (((awk n root fs S).map fun r => rest fs S (cls S.h n r)).foldl less1 (least ((canW ws S (awk n root fs S)).map (cand ws S (awk n root fs S))))).getD 0
def turnF (n root : Nat) (fs : List Nat) (ws : Wl) (Q : Gs × Keys) : Gs × Keys :=
  (takeAll ws n (grow n Q.1 (awk n root fs Q.1) (spanF n root fs ws Q.1)),
   noteL root fs (takeAll ws n (grow n Q.1 (awk n root fs Q.1) (spanF n root fs ws Q.1)))
    (noteL root fs (takeAll ws n (grow n Q.1 (awk n root fs Q.1) (spanF n root fs ws Q.1))) Q.2 (born ws n n (grow n Q.1 (awk n root fs Q.1) (spanF n root fs ws Q.1))))
    ((reps (takeAll ws n (grow n Q.1 (awk n root fs Q.1) (spanF n root fs ws Q.1))).h n).map (cls (takeAll ws n (grow n Q.1 (awk n root fs Q.1) (spanF n root fs ws Q.1))).h n)))
def groF (n root : Nat) (fs : List Nat) (ws : Wl) : Nat → Gs × Keys → Gs × Keys
  | 0, Q => Q
  | k + 1, Q => if awk n root fs Q.1 = [] then Q else groF n root fs ws k (turnF n root fs ws Q)
def allF (n root : Nat) (fs : List Nat) (ws : Wl) : Gs × Keys := groF n root fs ws (2 * n) (start, noteL root fs start [] ((reps start.h n).map (cls start.h n)))
theorem groF_stop {n root : Nat} {fs : List Nat} {ws : Wl} {Q : Gs × Keys} (h : awk n root fs Q.1 = []) : ∀ k, groF n root fs ws k Q = Q
  | 0 => rfl
  | k + 1 => if_pos h
/-- the least of a list, begun with some value -/
theorem fold_least : ∀ (l : List Int) (o : Option Int), l.foldl less1 o ≠ none ∨ (o = none ∧ l = [])
  | [], none => .inr ⟨rfl, rfl⟩
  | [], some x => .inl (fun h => nomatch h)
  | z :: l, o => by
    rcases fold_least l (less1 o z) with h | ⟨h, _⟩
    · exact .inl h
    · cases o with
      | none => cases h
      | some y =>
        have e : (if z < y then some z else some y) = none := h
        by_cases q : z < y
        · rw [if_pos q] at e; cases e
        · rw [if_neg q] at e; cases e
end Mw

set_option linter.all false
namespace Mw
/-! ### the rests of groups that come together -/
theorem filter_sumI {α : Type} (p : α → Bool) (f : α → Int) : ∀ l : List α, ((l.filter p).map f).sum = (l.map fun x => if p x = true then f x else 0).sum
  | [] => rfl
  | x :: l => by
    rw [List.filter_cons, List.map_cons, List.sum_cons, ← filter_sumI p f l]
    by_cases h : p x = true
    · rw [if_pos h, if_pos h, List.map_cons, List.sum_cons]
    · rw [if_neg h, if_neg h]; omega
theorem sum_addI {α : Type} (f g : α → Int) : ∀ l : List α, (l.map fun x => f x + g x).sum = (l.map f).sum + (l.map g).sum
  | [] => rfl
  | x :: l => by rw [List.map_cons, List.map_cons, List.map_cons, List.sum_cons, List.sum_cons, List.sum_cons, sum_addI f g l]; omega
theorem mem_join {n : Nat} {es : List (Nat × Nat)} {h : Nat → Nat} (H : Hom n es h) {a b x : Nat} (ha : a < n) (hb : b < n) : x ∈ cls (relab h a b) n a ↔ x < n ∧ (h x = h a ∨ h x = h b) := by
  rw [mem_cls]
  refine and_congr_right fun hx => ?_
  have e2 : relab h a b a = min (h a) (h b) := by rw [relab_eq H ha hb ha, if_pos (.inl rfl)]
  rw [e2, relab_eq H ha hb hx]
  by_cases q : h x = h a ∨ h x = h b
  · rw [if_pos q]; exact ⟨fun _ => q, fun _ => rfl⟩
  · rw [if_neg q]
    refine ⟨fun z => ?_, fun z => absurd z q⟩
    rcases Nat.le_total (h a) (h b) with y | y
    · rw [Nat.min_eq_left y] at z; exact .inl z
    · rw [Nat.min_eq_right y] at z; exact .inr z
theorem mem_apart {n : Nat} {es : List (Nat × Nat)} {h : Nat → Nat} (H : Hom n es h) {a b r : Nat} (ha : a < n) (hb : b < n) (hr : r < n) (h1 : h r ≠ h a) (h2 : h r ≠ h b) : cls (relab h a b) n r = cls h n r := by
  refine sorted_ext (cls_pw _ _ _) (cls_pw _ _ _) fun x => ?_
  rw [mem_cls, mem_cls]
  refine and_congr_right fun hx => ?_
  rw [relab_eq H ha hb hx, relab_eq H ha hb hr, if_neg (show ¬ (h r = h a ∨ h r = h b) from fun z => z.elim h1 h2)]
  by_cases q : h x = h a ∨ h x = h b
  · rw [if_pos q]
    refine ⟨fun z => ?_, fun z => ?_⟩
    · exfalso
      rcases Nat.le_total (h a) (h b) with y | y
      · rw [Nat.min_eq_left y] at z; exact h1 z.symm
      · rw [Nat.min_eq_right y] at z; exact h2 z.symm
    · rcases q with q | q
      · exact absurd (z.symm.trans q) h1
      · exact absurd (z.symm.trans q) h2
  · rw [if_neg q]
theorem inK_iff {k c : List Nat} : inK k c = true ↔ ∀ x ∈ k, x ∈ c := by
  unfold inK
  rw [List.all_eq_true]
  exact ⟨fun h x hx => of_decide_eq_true (h x hx), fun h x hx => decide_eq_true (h x hx)⟩
theorem fineS_cls (fs : List Nat) (c : List Nat) (n : Nat) (hc : c = (List.range n).filter fun x => decide (x ∈ c)) : fineS fs c = ((List.range n).map fun x => if decide (x ∈ c) = true then ((fs.getD x 0 : Nat) : Int) else 0).sum := by
  unfold fineS
  have := filter_sumI (fun x => decide (x ∈ c)) (fun x => ((fs.getD x 0 : Nat) : Int)) (List.range n)
  rw [← hc] at this
  exact this
theorem cls_self (h : Nat → Nat) (n r : Nat) : cls h n r = (List.range n).filter fun x => decide (x ∈ cls h n r) := by
  refine sorted_ext (cls_pw _ _ _) ((range_pw n).filter _) fun x => ?_
  rw [List.mem_filter, List.mem_range, decide_eq_true_eq]
  exact ⟨fun z => ⟨(mem_cls.mp z).1, z⟩, fun z => z.2⟩
theorem rest_join {n : Nat} {es : List (Nat × Nat)} {S S' : Gs} {fs : List Nat} (H : Hom n es S.h) (key : ∀ kw ∈ S.wid, (∀ x ∈ kw.1, x < n ∧ ∀ y ∈ kw.1, S.h x = S.h y) ∧ kw.1 ≠ []) {a b : Nat} (ha : a < n) (hb : b < n) (hne : S.h a ≠ S.h b) (hh : S'.h = relab S.h a b) (hw : S'.wid = S.wid) :
    rest fs S' (cls S'.h n a) = rest fs S (cls S.h n a) + rest fs S (cls S.h n b) := by
  have f1 : fineS fs (cls S'.h n a) = fineS fs (cls S.h n a) + fineS fs (cls S.h n b) := by
    rw [fineS_cls fs _ n (cls_self _ _ _), fineS_cls fs (cls S.h n a) n (cls_self _ _ _), fineS_cls fs (cls S.h n b) n (cls_self _ _ _), ← sum_addI]
    congr 1
    refine List.map_congr_left fun x hx => ?_
    have hx' := List.mem_range.mp hx
    have e : x ∈ cls S'.h n a ↔ S.h x = S.h a ∨ S.h x = S.h b := by rw [hh, mem_join H ha hb]; exact ⟨fun z => z.2, fun z => ⟨hx', z⟩⟩
    have ea : x ∈ cls S.h n a ↔ S.h x = S.h a := by rw [mem_cls]; exact ⟨fun z => z.2, fun z => ⟨hx', z⟩⟩
    have eb : x ∈ cls S.h n b ↔ S.h x = S.h b := by rw [mem_cls]; exact ⟨fun z => z.2, fun z => ⟨hx', z⟩⟩
    simp only [decide_eq_true_eq, e, ea, eb]
    by_cases q : S.h x = S.h a
    · have q2 : S.h x ≠ S.h b := fun z => hne (q.symm.trans z)
      rw [if_pos (.inl q), if_pos q, if_neg q2]; omega
    · by_cases q2 : S.h x = S.h b
      · rw [if_pos (.inr q2), if_neg q, if_pos q2]; omega
      · rw [if_neg (fun z => z.elim q q2), if_neg q, if_neg q2]; rfl
  have f2 : usedW (cls S'.h n a) S'.wid = usedW (cls S.h n a) S.wid + usedW (cls S.h n b) S.wid := by
    unfold usedW
    rw [hw, filter_sumI, filter_sumI, filter_sumI, ← sum_addI]
    congr 1
    refine List.map_congr_left fun kw hk => ?_
    obtain ⟨k1, k2⟩ := key kw hk
    obtain ⟨y, hy⟩ := List.exists_mem_of_ne_nil _ k2
    have one : ∀ r, r < n → (inK kw.1 (cls S.h n r) = true ↔ S.h y = S.h r) := fun r hr => by
      rw [inK_iff]
      exact ⟨fun z => (mem_cls.mp (z y hy)).2, fun z x hx => mem_cls.mpr ⟨(k1 x hx).1, ((k1 x hx).2 y hy).trans z⟩⟩
    have two : inK kw.1 (cls S'.h n a) = true ↔ S.h y = S.h a ∨ S.h y = S.h b := by
      rw [inK_iff, hh]
      exact ⟨fun z => ((mem_join H ha hb).mp (z y hy)).2, fun z x hx => (mem_join H ha hb).mpr ⟨(k1 x hx).1, by rw [(k1 x hx).2 y hy]; exact z⟩⟩
    by_cases q : S.h y = S.h a
    · have q2 : S.h y ≠ S.h b := fun z => hne (q.symm.trans z)
      rw [if_pos (two.mpr (.inl q)), if_pos ((one a ha).mpr q), if_neg fun z => q2 ((one b hb).mp z)]; omega
    · by_cases q2 : S.h y = S.h b
      · rw [if_pos (two.mpr (.inr q2)), if_neg (fun z => q ((one a ha).mp z)), if_pos ((one b hb).mpr q2)]; omega
      · rw [if_neg (fun z => (two.mp z).elim q q2), if_neg (fun z => q ((one a ha).mp z)), if_neg fun z => q2 ((one b hb).mp z)]; rfl
  unfold rest
  rw [f1, f2, Int.add_mul]
  omega
end Mw

set_option linter.all false
namespace Mw
/-! ### a turn of the growth with fines -/
theorem mem_awk {n root r : Nat} {fs : List Nat} {S : Gs} : r ∈ awk n root fs S ↔ (r < n ∧ S.h r = r) ∧ root ∉ cls S.h n r ∧ 0 < rest fs S (cls S.h n r) := by
  unfold awk
  rw [List.mem_filter, mem_reps', Bool.and_eq_true, decide_eq_true_eq, decide_eq_true_eq]
theorem awk_nodup (n root : Nat) (fs : List Nat) (S : Gs) : (awk n root fs S).Nodup := (reps_nodup S.h n).filter _
theorem sum_dvd {d : Int} : ∀ {l : List Int}, (∀ x ∈ l, d ∣ x) → d ∣ l.sum
  | [], _ => Int.dvd_zero _
  | x :: l, h => by rw [List.sum_cons]; exact Int.dvd_add (h x List.mem_cons_self) (sum_dvd fun y hy => h y (List.mem_cons_of_mem _ hy))
theorem GB.rest_dvd {n t b : Nat} {ws : Wl} {S : Gs} (G : GB n ws t b S) (fs c : List Nat) : ut t ∣ rest fs S c := by
  unfold rest usedW
  refine Int.dvd_sub (Int.dvd_trans (ut_4096 t) (Int.dvd_mul_left _ _)) (sum_dvd fun x hx => ?_)
  obtain ⟨kw, hk, rfl⟩ := List.mem_map.mp hx
  exact G.dw kw (List.mem_filter.mp hk).1
/-- the span of a turn -/
theorem spanF_ok {n t b root : Nat} {fs : List Nat} {ws : Wl} {S : Gs} (G : GB n ws t b S) (ht : t < 12) (hf : first ws S = none) (hA : awk n root fs S ≠ []) :
    ∃ x, (((awk n root fs S).map fun r => rest fs S (cls S.h n r)).foldl less1 (least ((canW ws S (awk n root fs S)).map (cand ws S (awk n root fs S))))) = some x ∧ spanF n root fs ws S = x ∧ 0 < x ∧
      (∀ c ∈ canW ws S (awk n root fs S), x ≤ cand ws S (awk n root fs S) c) ∧ (∀ r ∈ awk n root fs S, x ≤ rest fs S (cls S.h n r)) ∧
      ((∃ c ∈ canW ws S (awk n root fs S), cand ws S (awk n root fs S) c = x) ∨ ∃ r ∈ awk n root fs S, rest fs S (cls S.h n r) = x) := by
  have e : (((awk n root fs S).map fun r => rest fs S (cls S.h n r)).foldl less1 (least ((canW ws S (awk n root fs S)).map (cand ws S (awk n root fs S))))) = least ((canW ws S (awk n root fs S)).map (cand ws S (awk n root fs S)) ++ (awk n root fs S).map fun r => rest fs S (cls S.h n r)) := by
    unfold least; rw [List.foldl_append]
  obtain ⟨x, hx, hm, hl⟩ := least_ex (l := (canW ws S (awk n root fs S)).map (cand ws S (awk n root fs S)) ++ (awk n root fs S).map fun r => rest fs S (cls S.h n r)) fun z => hA (List.map_eq_nil_iff.mp (List.append_eq_nil_iff.mp z).2)
  have hc : ∀ c ∈ canW ws S (awk n root fs S), x ≤ cand ws S (awk n root fs S) c := fun c hc => hl _ (List.mem_append_left _ (List.mem_map_of_mem hc))
  have hr : ∀ r ∈ awk n root fs S, x ≤ rest fs S (cls S.h n r) := fun r hr => hl _ (List.mem_append_right _ (List.mem_map.mpr ⟨r, hr, rfl⟩))
  have hor : (∃ c ∈ canW ws S (awk n root fs S), cand ws S (awk n root fs S) c = x) ∨ ∃ r ∈ awk n root fs S, rest fs S (cls S.h n r) = x := by
    rcases List.mem_append.mp hm with q | q
    · obtain ⟨c, h1, h2⟩ := List.mem_map.mp q
      exact .inl ⟨c, h1, h2⟩
    · obtain ⟨r, h1, h2⟩ := List.mem_map.mp q
      exact .inr ⟨r, h1, h2⟩
  refine ⟨x, by rw [e]; exact hx, by unfold spanF; rw [e, hx]; rfl, ?_, hc, hr, hor⟩
  rcases hor with ⟨c, h1, h2⟩ | ⟨r, h1, h2⟩
  · obtain ⟨k1, k2, k3⟩ := mem_canW.mp h1
    obtain ⟨e1, _⟩ := G.cand_eq ht _ k3
    have hl1 := first_none hf k1 k2
    rw [h2] at e1
    rcases Int.lt_or_le 0 x with q | q
    · exact q
    · have := Int.mul_le_mul_of_nonneg_right q (show (0 : Int) ≤ (spd ws S (awk n root fs S) c : Int) by omega); omega
  · rw [← h2]; exact (mem_awk.mp h1).2.2
/-- no way is overrun in a turn -/
theorem spanF_lack {n t b : Nat} {ws : Wl} {S : Gs} {R : List Nat} {x : Int} (G : GB n ws t b S) (ht : t < 12) (hc : ∀ c ∈ canW ws S R, x ≤ cand ws S R c) : ∀ c, c < ws.length → crosses ws S c = true → x * (spd ws S R c : Int) ≤ lack ws S c := fun c hcl hcr => by
  rcases Nat.eq_zero_or_pos (spd ws S R c) with q | q
  · rw [q]
    have := G.lk c hcl hcr
    show x * 0 ≤ lack ws S c
    omega
  · obtain ⟨e1, _⟩ := G.cand_eq ht R q
    rw [← e1]
    exact Int.mul_le_mul_of_nonneg_right (hc c (mem_canW.mpr ⟨hcl, hcr, q⟩)) (by omega)
theorem fineS_le {fs : List Nat} (hb : ∀ f ∈ fs, f ≤ 10000) : ∀ c : List Nat, fineS fs c ≤ 10000 * (c.length : Int)
  | [] => by show (0 : Int) ≤ 10000 * 0; omega
  | x :: c => by
    have ih := fineS_le hb c
    have h : fs.getD x 0 ≤ 10000 := by
      rw [List.getD_eq_getElem?_getD]
      cases e : fs[x]? with
      | none => exact Nat.zero_le _
      | some f => exact hb f (List.mem_of_getElem? e)
    have e : fineS fs (x :: c) = ((fs.getD x 0 : Nat) : Int) + fineS fs c := by unfold fineS; rw [List.map_cons, List.sum_cons]
    rw [e, List.length_cons]; omega
theorem sum_pos0 : ∀ {l : List Int}, (∀ x ∈ l, 0 ≤ x) → 0 ≤ l.sum
  | [], _ => Int.le_refl _
  | x :: l, h => by
    have h1 := h x List.mem_cons_self
    have h2 := sum_pos0 (l := l) fun y hy => h y (List.mem_cons_of_mem _ hy)
    rw [List.sum_cons]; omega
theorem GB.rest_le {n t b : Nat} {ws : Wl} {S : Gs} (G : GB n ws t b S) {fs : List Nat} (hb : ∀ f ∈ fs, f ≤ 10000) (n12 : n ≤ 12) (r : Nat) : rest fs S (cls S.h n r) ≤ 12 * 40960000 := by
  have h1 := fineS_le hb (cls S.h n r)
  have h2 : (cls S.h n r).length ≤ n := by
    have := List.length_filter_le (fun x => S.h x == S.h r) (List.range n)
    rw [List.length_range] at this; exact this
  have h3 : 0 ≤ usedW (cls S.h n r) S.wid := sum_pos0 fun x hx => by
    obtain ⟨kw, hk, rfl⟩ := List.mem_map.mp hx
    have := (G.w0 kw (List.mem_filter.mp hk).1).1
    omega
  unfold rest
  omega
end Mw

set_option linter.all false
namespace Mw
/-! ### the rests after a growth -/
theorem used_add (c k : List Nat) (s : Int) : ∀ l : List (List Nat × Int), usedW c (addW l k s) = usedW c l + if inK k c = true then s else 0
  | [] => by
    show usedW c [(k, s)] = 0 + _
    unfold usedW
    rw [filter_sumI]
    show (if inK k c = true then s else 0) + 0 = 0 + _
    omega
  | (j, w) :: r => by
    have hc : ∀ (j : List Nat) (w : Int) (r : List (List Nat × Int)), usedW c ((j, w) :: r) = (if inK j c = true then w else 0) + usedW c r := fun j w r => by
      unfold usedW
      rw [filter_sumI, filter_sumI, List.map_cons, List.sum_cons]
    by_cases e : j = k
    · subst e
      rw [show addW ((j, w) :: r) j s = (j, w + s) :: r from if_pos rfl, hc, hc]
      by_cases q : inK j c = true
      · rw [if_pos q, if_pos q, if_pos q]; omega
      · rw [if_neg q, if_neg q, if_neg q]; omega
    · rw [show addW ((j, w) :: r) k s = (j, w) :: addW r k s from if_neg e, hc, hc, used_add c k s r]
      omega
theorem used_fold {n : Nat} {h : Nat → Nat} (c : List Nat) (s : Int) : ∀ (R : List Nat) (l : List (List Nat × Int)), usedW c (R.foldl (fun w r => addW w (cls h n r) s) l) = usedW c l + (R.map fun r => if inK (cls h n r) c = true then s else 0).sum
  | [], l => by show usedW c l = usedW c l + 0; omega
  | r :: R, l => by
    rw [List.foldl_cons, used_fold c s R, used_add, List.map_cons, List.sum_cons]; omega
theorem rest_grow {n : Nat} {S : Gs} {fs R : List Nat} {x : Int} (hR : ∀ r ∈ R, r < n ∧ S.h r = r) (hnd : R.Nodup) {r : Nat} (hr : r < n ∧ S.h r = r) : rest fs (grow n S R x) (cls S.h n r) = rest fs S (cls S.h n r) - if r ∈ R then x else 0 := by
  unfold rest
  have e : usedW (cls S.h n r) (grow n S R x).wid = usedW (cls S.h n r) S.wid + if r ∈ R then x else 0 := by
    show usedW (cls S.h n r) (R.foldl (fun w r => addW w (cls S.h n r) x) S.wid) = _
    rw [used_fold]
    congr 1
    have e2 : R.map (fun q => if inK (cls S.h n q) (cls S.h n r) = true then x else 0) = R.map (fun q => if q = r then x else 0) := List.map_congr_left fun q hq => by
      have : inK (cls S.h n q) (cls S.h n r) = true ↔ q = r := by
        rw [inK_iff]
        constructor
        · intro z
          have := (mem_cls.mp (z q (mem_cls.mpr ⟨(hR q hq).1, rfl⟩))).2
          rw [(hR q hq).2, hr.2] at this; exact this
        · rintro rfl y hy; exact hy
      by_cases z : q = r
      · rw [if_pos (this.mpr z), if_pos z]
      · rw [if_neg fun y => z (this.mp y), if_neg z]
    rw [e2, sum_one x r hnd]
  rw [e]; omega
end Mw

set_option linter.all false
namespace Mw
/-! ### the growth with fines ends -/
theorem nodup_sub {α : Type} [DecidableEq α] : ∀ {l m : List α}, l.Nodup → (∀ x ∈ l, x ∈ m) → l.length ≤ m.length
  | [], _, _, _ => Nat.zero_le _
  | x :: l, m, h, hs => by
    obtain ⟨h1, h2⟩ := List.nodup_cons.mp h
    have hm : x ∈ m := hs x List.mem_cons_self
    have := nodup_sub (l := l) (m := m.erase x) h2 fun y hy => by
      have hne : y ≠ x := fun e => h1 (e ▸ hy)
      exact (List.mem_erase_of_ne hne).mpr (hs y (List.mem_cons_of_mem _ hy))
    rw [List.length_erase_of_mem hm] at this
    have hp := List.length_pos_of_mem hm
    rw [List.length_cons]; omega
/-- what the rests keep while ways are taken -/
structure FM (n root : Nat) (fs : List Nat) (ws : Wl) (t b : Nat) (S : Gs) : Prop where
  g : GB n ws t b S
  r0 : ∀ r, r < n → S.h r = r → root ∉ cls S.h n r → 0 ≤ rest fs S (cls S.h n r)
theorem cls_hom {n : Nat} {es : List (Nat × Nat)} {h : Nat → Nat} (H : Hom n es h) {a : Nat} (ha : a < n) : cls h n (h a) = cls h n a := by
  unfold cls
  rw [H.idem a ha]
theorem FM.take {n root t b : Nat} {fs : List Nat} {ws : Wl} {S : Gs} (W : WsOk n ws) (F : FM n root fs ws t b S) {c : Nat} (hc : c < ws.length) (hx : crosses ws S c = true) :
    FM n root fs ws t b (take1 ws S c) ∧ (reps (take1 ws S c).h n).length < (reps S.h n).length ∧ (awk n root fs (take1 ws S c)).length ≤ (awk n root fs S).length := by
  obtain ⟨G2, hlt⟩ := F.g.take W hc hx
  obtain ⟨es, H⟩ := F.g.hom
  obtain ⟨w1, w2, _⟩ := W.ok c hc
  have ha : (way ws c).1 < n := Nat.lt_trans w1 w2
  have hne : S.h (way ws c).1 ≠ S.h (way ws c).2.1 := of_decide_eq_true hx
  have key : ∀ kw ∈ S.wid, (∀ x ∈ kw.1, x < n ∧ ∀ y ∈ kw.1, S.h x = S.h y) ∧ kw.1 ≠ [] := fun kw hk => ⟨(F.g.key kw hk).1, (F.g.key kw hk).2.1⟩
  have hj : rest fs (take1 ws S c) (cls (take1 ws S c).h n (way ws c).1) = rest fs S (cls S.h n (way ws c).1) + rest fs S (cls S.h n (way ws c).2.1) := rest_join H key ha w2 hne rfl rfl
  have la := H.le _ ha
  have lb := H.le _ w2
  have ia := H.idem _ ha
  have ib := H.idem _ w2
  have ca := cls_hom H ha
  have cb := cls_hom H w2
  -- a group of the new relation: another one, or the joined one
  have split : ∀ r, r < n → (take1 ws S c).h r = r → (S.h r = r ∧ S.h r ≠ S.h (way ws c).1 ∧ S.h r ≠ S.h (way ws c).2.1 ∧ cls (take1 ws S c).h n r = cls S.h n r) ∨ (r = min (S.h (way ws c).1) (S.h (way ws c).2.1) ∧ cls (take1 ws S c).h n r = cls (take1 ws S c).h n (way ws c).1) := fun r hr e => by
    have e' : relab S.h (way ws c).1 (way ws c).2.1 r = r := e
    rw [relab_eq H ha w2 hr] at e'
    by_cases q : S.h r = S.h (way ws c).1 ∨ S.h r = S.h (way ws c).2.1
    · rw [if_pos q] at e'
      refine .inr ⟨e'.symm, ?_⟩
      refine sorted_ext (cls_pw _ _ _) (cls_pw _ _ _) fun x => ?_
      rw [mem_cls, mem_cls]
      have e3 : (take1 ws S c).h (way ws c).1 = r := by
        show relab S.h (way ws c).1 (way ws c).2.1 (way ws c).1 = r
        rw [relab_eq H ha w2 ha, if_pos (.inl rfl)]; exact e'
      rw [e, e3]
    · rw [if_neg q] at e'
      have q1 : S.h r ≠ S.h (way ws c).1 := fun z => q (.inl z)
      have q2 : S.h r ≠ S.h (way ws c).2.1 := fun z => q (.inr z)
      exact .inl ⟨e', q1, q2, mem_apart H ha w2 hr q1 q2⟩
  have sub : ∀ x, x ∈ cls S.h n (way ws c).1 ∨ x ∈ cls S.h n (way ws c).2.1 → x ∈ cls (take1 ws S c).h n (way ws c).1 := fun x hx => by
    refine (mem_join H ha w2).mpr ?_
    rcases hx with q | q
    · exact ⟨(mem_cls.mp q).1, .inl (mem_cls.mp q).2⟩
    · exact ⟨(mem_cls.mp q).1, .inr (mem_cls.mp q).2⟩
  have parts : root ∉ cls (take1 ws S c).h n (way ws c).1 → 0 ≤ rest fs S (cls S.h n (way ws c).1) ∧ 0 ≤ rest fs S (cls S.h n (way ws c).2.1) ∧ root ∉ cls S.h n (way ws c).1 ∧ root ∉ cls S.h n (way ws c).2.1 := fun hr => by
    have n1 : root ∉ cls S.h n (way ws c).1 := fun z => hr (sub _ (.inl z))
    have n2 : root ∉ cls S.h n (way ws c).2.1 := fun z => hr (sub _ (.inr z))
    refine ⟨?_, ?_, n1, n2⟩
    · rw [← ca]; exact F.r0 _ (by omega) ia (by rw [ca]; exact n1)
    · rw [← cb]; exact F.r0 _ (by omega) ib (by rw [cb]; exact n2)
  refine ⟨⟨G2, fun r hr e hroot => ?_⟩, hlt, ?_⟩
  · rcases split r hr e with ⟨q1, _, _, q4⟩ | ⟨_, q⟩
    · rw [q4] at hroot ⊢
      exact F.r0 r hr q1 hroot
    · rw [q] at hroot ⊢
      obtain ⟨p1, p2, _⟩ := parts hroot
      rw [hj]; omega
  · -- the awake ones
    have hnew : ∀ r ∈ awk n root fs (take1 ws S c), (r ∈ awk n root fs S ∧ S.h r ≠ S.h (way ws c).1 ∧ S.h r ≠ S.h (way ws c).2.1 ∧ S.h r = r) ∨ (r = min (S.h (way ws c).1) (S.h (way ws c).2.1) ∧ (S.h (way ws c).1 ∈ awk n root fs S ∨ S.h (way ws c).2.1 ∈ awk n root fs S)) := fun r hr => by
      obtain ⟨⟨k1, k2⟩, k3, k4⟩ := mem_awk.mp hr
      rcases split r k1 k2 with ⟨q1, q2, q3, q4⟩ | ⟨q1, q2⟩
      · rw [q4] at k3 k4
        exact .inl ⟨mem_awk.mpr ⟨⟨k1, q1⟩, k3, k4⟩, q2, q3, q1⟩
      · rw [q2] at k3 k4
        obtain ⟨p1, p2, p3, p4⟩ := parts k3
        rw [hj] at k4
        refine .inr ⟨q1, ?_⟩
        by_cases z : 0 < rest fs S (cls S.h n (way ws c).1)
        · exact .inl (mem_awk.mpr ⟨⟨by omega, ia⟩, by rw [ca]; exact p3, by rw [ca]; exact z⟩)
        · exact .inr (mem_awk.mpr ⟨⟨by omega, ib⟩, by rw [cb]; exact p4, by rw [cb]; omega⟩)
    by_cases hm : min (S.h (way ws c).1) (S.h (way ws c).2.1) ∈ awk n root fs (take1 ws S c)
    · obtain ⟨d, hd, hda⟩ : ∃ d, d ∈ awk n root fs S ∧ (d = S.h (way ws c).1 ∨ d = S.h (way ws c).2.1) := by
        rcases hnew _ hm with ⟨_, q1, q2, q3⟩ | ⟨_, q | q⟩
        · exfalso
          rcases Nat.le_total (S.h (way ws c).1) (S.h (way ws c).2.1) with y | y
          · rw [Nat.min_eq_left y] at q1; exact q1 ia
          · rw [Nat.min_eq_right y] at q2; exact q2 ib
        · exact ⟨_, q, .inl rfl⟩
        · exact ⟨_, q, .inr rfl⟩
      have hl : (awk n root fs (take1 ws S c)).length = ((awk n root fs (take1 ws S c)).map fun r => if r = min (S.h (way ws c).1) (S.h (way ws c).2.1) then d else r).length := (List.length_map _).symm
      rw [hl]
      refine nodup_sub ?_ fun x hx => ?_
      · refine List.pairwise_map.mpr (List.Pairwise.imp_of_mem ?_ (awk_nodup n root fs (take1 ws S c)))
        intro u v hu hv huv e
        have out : ∀ w, w ∈ awk n root fs (take1 ws S c) → w ≠ min (S.h (way ws c).1) (S.h (way ws c).2.1) → w ≠ d := fun w hw hne2 e2 => by
          rcases hnew w hw with ⟨_, q1, q2, q3⟩ | ⟨q, _⟩
          · rcases hda with y | y
            · exact q1 (by rw [q3, e2, y])
            · exact q2 (by rw [q3, e2, y])
          · exact hne2 q
        by_cases z1 : u = min (S.h (way ws c).1) (S.h (way ws c).2.1)
        · by_cases z2 : v = min (S.h (way ws c).1) (S.h (way ws c).2.1)
          · exact huv (z1.trans z2.symm)
          · rw [if_pos z1, if_neg z2] at e; exact out v hv z2 e.symm
        · by_cases z2 : v = min (S.h (way ws c).1) (S.h (way ws c).2.1)
          · rw [if_neg z1, if_pos z2] at e; exact out u hu z1 e
          · rw [if_neg z1, if_neg z2] at e; exact huv e
      · obtain ⟨r, hr, rfl⟩ := List.mem_map.mp hx
        by_cases z : r = min (S.h (way ws c).1) (S.h (way ws c).2.1)
        · rw [if_pos z]; exact hd
        · rw [if_neg z]
          rcases hnew r hr with ⟨q, _⟩ | ⟨q, _⟩
          · exact q
          · exact absurd q z
    · refine nodup_sub (awk_nodup n root fs (take1 ws S c)) fun r hr => ?_
      rcases hnew r hr with ⟨q, _⟩ | ⟨q, _⟩
      · exact q
      · exact absurd (q ▸ hr) hm
end Mw

set_option linter.all false
namespace Mw
theorem FM.takeAll {n root t b : Nat} {fs : List Nat} {ws : Wl} (W : WsOk n ws) : ∀ {k : Nat} {S : Gs}, FM n root fs ws t b S → (reps S.h n).length ≤ k → FM n root fs ws t b (takeAll ws k S) ∧ first ws (takeAll ws k S) = none ∧ (reps (takeAll ws k S).h n).length ≤ (reps S.h n).length ∧
    (awk n root fs (takeAll ws k S)).length ≤ (awk n root fs S).length ∧ (∀ c, first ws S = some c → (reps (takeAll ws k S).h n).length < (reps S.h n).length)
  | 0, S, F, hk => by
    have hno : first ws S = none := by
      cases e : first ws S with
      | none => rfl
      | some c =>
        obtain ⟨hc, hx, _⟩ := first_some e
        have := (F.take W hc hx).2.1
        omega
    exact ⟨F, hno, Nat.le_refl _, Nat.le_refl _, fun c e => by rw [hno] at e; cases e⟩
  | k + 1, S, F, hk => by
    cases e : first ws S with
    | none =>
      have e2 : Mw.takeAll ws (k + 1) S = S := by show (match first ws S with | none => S | some c => _) = S; rw [e]
      rw [e2]
      exact ⟨F, e, Nat.le_refl _, Nat.le_refl _, fun c e => by cases e⟩
    | some c =>
      have e2 : Mw.takeAll ws (k + 1) S = Mw.takeAll ws k (take1 ws S c) := by show (match first ws S with | none => S | some c => Mw.takeAll ws k (take1 ws S c)) = _; rw [e]
      obtain ⟨hc, hx, _⟩ := first_some e
      obtain ⟨F2, hlt, hle⟩ := F.take W hc hx
      obtain ⟨h1, h2, h3, h4, _⟩ := FM.takeAll W (k := k) F2 (by omega)
      rw [e2]
      exact ⟨h1, h2, by omega, by omega, fun _ _ => by omega⟩
/-- a turn's growth: the parts of time go on by one where a way ends it, else they stay -/
theorem FM.grow {n root t b : Nat} {fs : List Nat} {ws : Wl} {S : Gs} (F : FM n root fs ws t b S) (hb : ∀ f ∈ fs, f ≤ 10000) (n12 : n ≤ 12) (ht : t < 12) (hf : first ws S = none) (hA : awk n root fs S ≠ []) :
    ∃ t', (t' = t ∨ (t' = t + 1 ∧ ∃ c, first ws (Mw.grow n S (awk n root fs S) (spanF n root fs ws S)) = some c)) ∧ FM n root fs ws t' (b + 12) (Mw.grow n S (awk n root fs S) (spanF n root fs ws S)) ∧
      (awk n root fs (Mw.grow n S (awk n root fs S) (spanF n root fs ws S))).length ≤ (awk n root fs S).length ∧
      ((∃ c, first ws (Mw.grow n S (awk n root fs S) (spanF n root fs ws S)) = some c) ∨ (awk n root fs (Mw.grow n S (awk n root fs S) (spanF n root fs ws S))).length < (awk n root fs S).length) ∧
      0 < spanF n root fs ws S ∧ spanF n root fs ws S ≤ 12 * 40960000 := by
  obtain ⟨x, hx, hsp, x0, hc, hr, hor⟩ := spanF_ok F.g ht hf hA
  rw [hsp]
  have hR : ∀ r ∈ awk n root fs S, r < n ∧ S.h r = r := fun r hr => (mem_awk.mp hr).1
  have hnd := awk_nodup n root fs S
  obtain ⟨r1, hr1⟩ := List.exists_mem_of_ne_nil _ hA
  have xle : x ≤ 12 * 40960000 := Int.le_trans (hr r1 hr1) (F.g.rest_le hb n12 r1)
  have hl := spanF_lack F.g ht hc
  have hg : ∀ t', t ≤ t' → ut t' ∣ x → GB n ws t' (b + 12) (Mw.grow n S (awk n root fs S) x) := fun t' h1 h2 => F.g.grow hR hnd h1 h2 x0 (by rw [Int.natCast_add, Int.add_mul]; show _ + x ≤ _ + 12 * 40960000; omega) hl
  have hr0 : ∀ r, r < n → (Mw.grow n S (awk n root fs S) x).h r = r → root ∉ cls (Mw.grow n S (awk n root fs S) x).h n r → 0 ≤ rest fs (Mw.grow n S (awk n root fs S) x) (cls (Mw.grow n S (awk n root fs S) x).h n r) := fun r h1 h2 h3 => by
    show 0 ≤ rest fs (Mw.grow n S (awk n root fs S) x) (cls S.h n r)
    rw [rest_grow hR hnd ⟨h1, h2⟩]
    have := F.r0 r h1 h2 h3
    by_cases z : r ∈ awk n root fs S
    · rw [if_pos z]; have := hr r z; omega
    · rw [if_neg z]; omega
  have hsub : ∀ r ∈ awk n root fs (Mw.grow n S (awk n root fs S) x), r ∈ awk n root fs S ∧ rest fs S (cls S.h n r) ≠ x := fun r h => by
    obtain ⟨k1, k2, k3⟩ := mem_awk.mp h
    have k3' : 0 < rest fs (Mw.grow n S (awk n root fs S) x) (cls S.h n r) := k3
    rw [rest_grow hR hnd k1] at k3'
    by_cases z : r ∈ awk n root fs S
    · rw [if_pos z] at k3'
      exact ⟨z, by omega⟩
    · exfalso
      rw [if_neg z] at k3'
      exact z (mem_awk.mpr ⟨k1, k2, by omega⟩)
  have hle : (awk n root fs (Mw.grow n S (awk n root fs S) x)).length ≤ (awk n root fs S).length := nodup_sub (awk_nodup _ _ _ _) fun r h => (hsub r h).1
  rcases hor with ⟨c, h1, h2⟩ | ⟨r, h1, h2⟩
  · obtain ⟨k1, k2, k3⟩ := mem_canW.mp h1
    obtain ⟨e1, e2⟩ := F.g.cand_eq ht _ k3
    rw [h2] at e1 e2
    have hfull : ∃ c, first ws (Mw.grow n S (awk n root fs S) x) = some c := by
      cases e : first ws (Mw.grow n S (awk n root fs S) x) with
      | some c => exact ⟨c, rfl⟩
      | none =>
        have := first_none e k1 k2
        rw [lack_grow, e1] at this
        omega
    exact ⟨t + 1, .inr ⟨rfl, hfull⟩, ⟨hg _ (by omega) e2, hr0⟩, hle, .inl hfull, x0, xle⟩
  · refine ⟨t, .inl rfl, ⟨hg _ (Nat.le_refl _) (by rw [← h2]; exact F.g.rest_dvd fs _), hr0⟩, hle, .inr ?_, x0, xle⟩
    have hn : r ∉ awk n root fs (Mw.grow n S (awk n root fs S) x) := fun z => (hsub r z).2 h2
    have := nodup_sub (l := r :: awk n root fs (Mw.grow n S (awk n root fs S) x)) (m := awk n root fs S) (List.nodup_cons.mpr ⟨hn, awk_nodup _ _ _ _⟩) fun y hy => by
      rcases List.mem_cons.mp hy with z | z
      · rw [z]; exact h1
      · exact (hsub y z).1
    rw [List.length_cons] at this; omega
/-- what holds between turns -/
structure FI (n root : Nat) (fs : List Nat) (ws : Wl) (t b : Nat) (S : Gs) : Prop where
  m : FM n root fs ws t b S
  f : first ws S = none
  c : (reps S.h n).length + t ≤ n
theorem FI.turn {n root t b : Nat} {fs : List Nat} {ws : Wl} {S : Gs} (W : WsOk n ws) (F : FI n root fs ws t b S) (hb : ∀ f ∈ fs, f ≤ 10000) (hA : awk n root fs S ≠ []) :
    t < 12 ∧ ∃ t', FI n root fs ws t' (b + 12) (takeAll ws n (grow n S (awk n root fs S) (spanF n root fs ws S))) ∧
      (reps (takeAll ws n (grow n S (awk n root fs S) (spanF n root fs ws S))).h n).length + (awk n root fs (takeAll ws n (grow n S (awk n root fs S) (spanF n root fs ws S)))).length < (reps S.h n).length + (awk n root fs S).length := by
  have n12 := W.n12
  obtain ⟨r1, hr1⟩ := List.exists_mem_of_ne_nil _ hA
  have hpos : 0 < (reps S.h n).length := List.length_pos_of_mem (mem_reps'.mpr (mem_awk.mp hr1).1)
  have hc := F.c
  have ht : t < 12 := by omega
  obtain ⟨t', h1, h2, h3, h4, _, _⟩ := F.m.grow hb n12 ht F.f hA
  have hrep : (reps (grow n S (awk n root fs S) (spanF n root fs ws S)).h n).length = (reps S.h n).length := rfl
  have hle : (reps S.h n).length ≤ n := by omega
  obtain ⟨k1, k2, k3, k4, k5⟩ := FM.takeAll W (k := n) h2 (by omega)
  refine ⟨ht, t', ⟨k1, k2, ?_⟩, ?_⟩
  · rcases h1 with h1 | ⟨h1, c, hc2⟩
    · omega
    · have := k5 c hc2; omega
  · rcases h4 with ⟨c, hc2⟩ | h4
    · have := k5 c hc2; omega
    · omega
end Mw

set_option linter.all false
namespace Mw
theorem fineS_pos (fs c : List Nat) : 0 ≤ fineS fs c := sum_pos0 fun x hx => by
  obtain ⟨y, _, rfl⟩ := List.mem_map.mp hx
  omega
theorem FI.start {n root : Nat} {fs : List Nat} {ws : Wl} (W : WsOk n ws) : FI n root fs ws 0 0 Mw.start := by
  refine ⟨⟨(GM.start W).b, fun r _ _ _ => ?_⟩, ?_, ?_⟩
  · show 0 ≤ fineS fs _ * 4096 - 0
    have := fineS_pos fs (cls Mw.start.h n r)
    omega
  · refine List.find?_eq_none.mpr fun c hc z => ?_
    have h1 := (W.ok c (List.mem_range.mp hc)).2.2.1
    unfold full at z
    rw [Bool.and_eq_true, decide_eq_true_eq] at z
    have h2 : lack ws Mw.start c = ((way ws c).2.2 : Int) * 4096 - (0 + 0) := rfl
    rw [h2] at z
    omega
  · have := List.length_filter_le (fun x => Mw.start.h x == x) (List.range n)
    rw [List.length_range] at this
    exact this
theorem groF_end {n root : Nat} {fs : List Nat} {ws : Wl} (W : WsOk n ws) (hb : ∀ f ∈ fs, f ≤ 10000) : ∀ (k t b : Nat) (Q : Gs × Keys), FI n root fs ws t b Q.1 → (reps Q.1.h n).length + (awk n root fs Q.1).length ≤ k →
    awk n root fs (groF n root fs ws k Q).1 = [] ∧ ∃ t' b', FI n root fs ws t' b' (groF n root fs ws k Q).1 ∧ b' ≤ b + 12 * k
  | 0, t, b, Q, F, hk => ⟨List.eq_nil_of_length_eq_zero (show (awk n root fs Q.1).length = 0 by omega), t, b, F, Nat.le_add_right _ _⟩
  | k + 1, t, b, Q, F, hk => by
    by_cases h : awk n root fs Q.1 = []
    · rw [groF_stop h]; exact ⟨h, t, b, F, Nat.le_add_right _ _⟩
    · have e : groF n root fs ws (k + 1) Q = groF n root fs ws k (turnF n root fs ws Q) := if_neg h
      rw [e]
      obtain ⟨_, t', F2, hlt⟩ := F.turn W hb h
      obtain ⟨q1, t2, b2, q2, q3⟩ := groF_end W hb k t' (b + 12) (turnF n root fs ws Q) F2 (by
        have e2 : (turnF n root fs ws Q).1 = takeAll ws n (grow n Q.1 (awk n root fs Q.1) (spanF n root fs ws Q.1)) := rfl
        rw [e2]; omega)
      exact ⟨q1, t2, b2, q2, by omega⟩
theorem allF_end {n root : Nat} {fs : List Nat} {ws : Wl} (W : WsOk n ws) (hb : ∀ f ∈ fs, f ≤ 10000) : awk n root fs (allF n root fs ws).1 = [] ∧ ∃ t b, FI n root fs ws t b (allF n root fs ws).1 ∧ b ≤ 288 := by
  have n12 := W.n12
  have h1 := List.length_filter_le (fun x => start.h x == x) (List.range n)
  have h2 := List.length_filter_le (fun r => decide (root ∉ cls start.h n r) && decide (0 < rest fs start (cls start.h n r))) (reps start.h n)
  rw [List.length_range] at h1
  have h1' : (reps start.h n).length ≤ n := h1
  have h2' : (awk n root fs start).length ≤ (reps start.h n).length := h2
  obtain ⟨q1, t, b, q2, q3⟩ := groF_end W hb (2 * n) 0 0 (start, noteL root fs start [] ((reps start.h n).map (cls start.h n))) (FI.start W) (by show (reps start.h n).length + (awk n root fs start).length ≤ 2 * n; omega)
  exact ⟨q1, t, b, q2, by omega⟩
end Mw

set_option Elab.async false
set_option linter.all false
set_option maxRecDepth 100000
set_option maxHeartbeats 4000000
namespace Mw
open PySem PySem.Spec PyProof.Rows L2 GE
/-! ### a Field -/
def natsV (l : List Nat) : List V := l.map fun x => V.int (x : Nat)
structure FAd where
  p : Addr
  lt : Addr
  lw : Addr
  lh : Addr
  ld : Addr
  wt : V
def ff (tv : V) (a : FAd) : List (Str × V) := [("time", tv), ("taken", .ref a.lt), ("widths", .ref a.lw), ("_ways", a.wt), ("_homes", .ref a.lh), ("_depths", .ref a.ld)]
theorem ff_time (tv : V) (a : FAd) : (ff tv a).lookup ("time" : Str) = some tv := by rfl
theorem ff_taken (tv : V) (a : FAd) : (ff tv a).lookup ("taken" : Str) = some (.ref a.lt) := by rfl
theorem ff_widths (tv : V) (a : FAd) : (ff tv a).lookup ("widths" : Str) = some (.ref a.lw) := by rfl
theorem ff_ways (tv : V) (a : FAd) : (ff tv a).lookup ("_ways" : Str) = some a.wt := by rfl
theorem ff_homes (tv : V) (a : FAd) : (ff tv a).lookup ("_homes" : Str) = some (.ref a.lh) := by rfl
theorem ff_depths (tv : V) (a : FAd) : (ff tv a).lookup ("_depths" : Str) = some (.ref a.ld) := by rfl
theorem ff_put (tv uv : V) (a : FAd) : putF "time" uv (ff tv a) = ff uv a := by rfl
structure FTx (K : PySem.W.Frag) (aC : Addr) : Prop where
  cl : Cls K aC
  n_time : NoAttr K aC "time"
  n_taken : NoAttr K aC "taken"
  n_widths : NoAttr K aC "widths"
  n_ways : NoAttr K aC "_ways"
  n_homes : NoAttr K aC "_homes"
  n_depths : NoAttr K aC "_depths"
def Fm (a : FAd) : Addr → Prop := fun b => b = a.p ∨ b = a.lt ∨ b = a.lw ∨ b = a.lh ∨ b = a.ld
def TkL (K : PySem.W.Frag) (H : Hp) : List (Int × Nat) → List V → Prop
  | [], vs => vs = []
  | (t, c) :: r, vs => ∃ a tv us, vs = .ref a :: us ∧ H a = some (.tup [tv, .int (c : Nat)]) ∧ FrV K H t tv ∧ TkL K H r us
def keyOf (k : List Nat) : List Key := k.map fun (x : Nat) => (Sum.inl (x : Int) : Key)
def WdL (K : PySem.W.Frag) (H : Hp) : List (List Nat × Int) → List (List Key × V) → Prop
  | [], vs => vs = []
  | (k, s) :: r, vs => ∃ v us, vs = (keyOf k, v) :: us ∧ FrV K H s v ∧ WdL K H r us
structure FieldAt (K : PySem.W.Frag) (aC : Addr) (H : Hp) (a : FAd) (n : Nat) (ws : Wl) (S : Gs) : Prop where
  ob : ∃ dx tv, H a.p = some (.ins aC dx (ff tv a)) ∧ FrV K H S.time tv
  tk : ∃ vs, H a.lt = some (.lst vs) ∧ TkL K H S.taken vs
  wd : ∃ kvs, H a.lw = some (.dT kvs) ∧ WdL K H S.wid kvs
  hm : ∃ vs, H a.lh = some (.lst vs) ∧ vs.length = n ∧ ∀ x, x < n → ∃ t, vs[x]? = some (.ref t) ∧ H t = some (.tup (natsV (cls S.h n x)))
  dp : ∃ vs, H a.ld = some (.lst vs) ∧ vs.length = n ∧ ∀ x, x < n → ∃ v, vs[x]? = some v ∧ FrV K H (S.dep x) v
  wy : ∃ wa us, a.wt = .ref wa ∧ H wa = some (.tup us) ∧ RpL H (ws.map wayD) us
  ne : a.lt ≠ a.lh ∧ a.lt ≠ a.ld ∧ a.lh ≠ a.ld
section
variable {K : PySem.W.Frag} {T : List Addr} {H H' : Hp}
/-- tuples stay, whatever else changes -/
structure Tp (K : PySem.W.Frag) (H H' : Hp) : Prop where
  tup : ∀ b xs, H b = some (.tup xs) → H' b = some (.tup xs)
  sq : ∀ b xs, SqT K H b xs → SqT K H' b xs
theorem Tp.of (e : Ext T noM H H') : Tp K H H' := ⟨fun b xs h => e.tup (fun z => z) h, fun b xs h => SqT.x h e fun z => z⟩
theorem Tp.refl : Tp K H H := ⟨fun _ _ h => h, fun _ _ h => h⟩
theorem Tp.trans {H2 : Hp} (a : Tp K H H') (b : Tp K H' H2) : Tp K H H2 := ⟨fun x xs h => b.tup x xs (a.tup x xs h), fun x xs h => b.sq x xs (a.sq x xs h)⟩
theorem Tp.mut {p : Addr} {old new : HO} (h : H p = some old) (n1 : ∀ xs, old ≠ .tup xs) (n2 : ∀ o xs, old ≠ .frz o xs) : Tp K H (upd H p new) := by
  refine ⟨fun b xs hb => ?_, fun b xs hb => ?_⟩
  · rw [upd_ne (fun z => by rw [z, h] at hb; exact n1 xs (Option.some.inj hb))]; exact hb
  · rcases hb with (hb | ⟨o, hb⟩) | hb
    · exact .inl (.inl (by rw [upd_ne (fun z => by rw [z, h] at hb; exact n1 xs (Option.some.inj hb))]; exact hb))
    · exact .inl (.inr ⟨o, by rw [upd_ne (fun z => by rw [z, h] at hb; exact n2 o _ (Option.some.inj hb))]; exact hb⟩)
    · exact .inr hb
theorem Tp.only {p : Addr} {old : HO} (h : H p = some old) (n1 : ∀ xs, old ≠ .tup xs) (n2 : ∀ o xs, old ≠ .frz o xs) (ho : ∀ b, b ≠ p → H' b = H b) : Tp K H H' := by
  refine ⟨fun b xs hb => ?_, fun b xs hb => ?_⟩
  · rw [ho b fun z => by rw [z, h] at hb; exact n1 xs (Option.some.inj hb)]; exact hb
  · rcases hb with (hb | ⟨o, hb⟩) | hb
    · exact .inl (.inl (by rw [ho b fun z => by rw [z, h] at hb; exact n1 xs (Option.some.inj hb)]; exact hb))
    · exact .inl (.inr ⟨o, by rw [ho b fun z => by rw [z, h] at hb; exact n2 o _ (Option.some.inj hb)]; exact hb⟩)
    · exact .inr hb
theorem Ext.only {M : Addr → Prop} {p : Addr} {old new : HO} (hM : M p) (h : H p = some old) (n : ∀ ps, old ≠ .tbl ps) (h' : H' p = some new) (ho : ∀ b, b ≠ p → H' b = H b) : Ext T M H H' := by
  refine ⟨fun b o m e _ => by rw [ho b fun z => m (z ▸ hM)]; exact e, fun P _ hg => ?_, fun b e => ?_⟩
  · have hne := tabG_ne hg h n
    obtain ⟨ps, hp, ht⟩ := hg
    exact ⟨ps, by rw [ho P hne]; exact hp, ht⟩
  · by_cases z : b = p
    · rw [z, h'] at e; cases e
    · rw [ho b z] at e; exact e
theorem Tp.fr (t : Tp K H H') {u : Int} {v : V} (h : FrV K H u v) : FrV K H' u v := by
  obtain ⟨a, rfl, h⟩ := h
  exact ⟨a, rfl, t.sq _ _ h⟩
theorem Tp.tk (t : Tp K H H') : ∀ {l : List (Int × Nat)} {vs : List V}, TkL K H l vs → TkL K H' l vs
  | [], vs, h => h
  | (s, c) :: r, vs, ⟨a, tv, us, e, h1, h2, h3⟩ => ⟨a, tv, us, e, t.tup _ _ h1, t.fr h2, Tp.tk t h3⟩
theorem Tp.wd (t : Tp K H H') : ∀ {l : List (List Nat × Int)} {vs : List (List Key × V)}, WdL K H l vs → WdL K H' l vs
  | [], vs, h => h
  | (k, s) :: r, vs, ⟨v, us, e, h2, h3⟩ => ⟨v, us, e, t.fr h2, Tp.wd t h3⟩
mutual
theorem Tp.rp (t : Tp K H H') : ∀ {d : D} {v : V}, Rp H d v → Rp H' d v
  | .i n, v, h => by rw [h.i]; exact rp_i n
  | .non, v, h => by unfold Rp at h ⊢; exact h
  | .bl b, v, h => by unfold Rp at h ⊢; exact h
  | .t ds, v, h => by
    obtain ⟨a, vs, rfl, h1, h2⟩ := h.t
    exact rp_t (t.tup _ _ h1) (Tp.rpl t h2)
theorem Tp.rpl (t : Tp K H H') : ∀ {ds : List D} {vs : List V}, RpL H ds vs → RpL H' ds vs
  | [], vs, h => by rw [h.nil]; exact rpl_nil
  | d :: ds, vs, h => by
    obtain ⟨v, r, rfl, h1, h2⟩ := h.cons
    exact rpl_cons (Tp.rp t h1) (Tp.rpl t h2)
end
theorem FieldAt.x {aC : Addr} {a : FAd} {n : Nat} {ws : Wl} {S : Gs} (F : FieldAt K aC H a n ws S) (e : Ext T noM H H') : FieldAt K aC H' a n ws S := by
  have t : Tp K H H' := Tp.of e
  obtain ⟨dx, tv, h1, h2⟩ := F.ob
  obtain ⟨v1, a1, a2⟩ := F.tk
  obtain ⟨v2, b1, b2⟩ := F.wd
  obtain ⟨v3, c1, c2, c3⟩ := F.hm
  obtain ⟨v4, d1, d2, d3⟩ := F.dp
  obtain ⟨wa, us, e1, e2, e3⟩ := F.wy
  exact ⟨⟨dx, tv, e.kp _ _ (fun z => z) h1 (fun ps z => nomatch z), t.fr h2⟩, ⟨v1, e.lst (fun z => z) a1, t.tk a2⟩, ⟨v2, e.kp _ _ (fun z => z) b1 (fun ps z => nomatch z), t.wd b2⟩,
    ⟨v3, e.lst (fun z => z) c1, c2, fun x hx => by obtain ⟨s, q1, q2⟩ := c3 x hx; exact ⟨s, q1, t.tup _ _ q2⟩⟩,
    ⟨v4, e.lst (fun z => z) d1, d2, fun x hx => by obtain ⟨s, q1, q2⟩ := d3 x hx; exact ⟨s, q1, t.fr q2⟩⟩, ⟨wa, us, e1, t.tup _ _ e2, t.rpl e3⟩, F.ne⟩
end
theorem natsV_inj {l m : List Nat} (h : natsV l = natsV m) : l = m := by
  unfold natsV at h
  exact List.map_inj_right (f := fun x : Nat => V.int (x : Nat)) (fun a b e => by injection e with e; omega) |>.mp h
def natD (l : List Nat) : PyData := .tuple (l.map fun x : Nat => .int (x : Int))
theorem eqv_nat : ∀ l m : List Nat, PyData.eqvAll (l.map fun x : Nat => .int (x : Int)) (m.map fun x : Nat => .int (x : Int)) = decide (l = m)
  | [], [] => rfl
  | [], _ :: _ => rfl
  | _ :: _, [] => rfl
  | x :: l, y :: m => by
    show ((x : Int) == (y : Int) && PyData.eqvAll _ _) = _
    rw [eqv_nat l m]
    by_cases e : x = y
    · subst e
      by_cases e2 : l = m
      · subst e2; simp
      · simp [e2]
    · have : ((x : Int) == (y : Int)) = false := beq_eq_false_iff_ne.mpr (by omega)
      rw [this, Bool.false_and]
      exact (decide_eq_false fun z => e (List.cons.inj z).1).symm
theorem natD_all : ∀ l : List Nat, PyData.canLayAll0 (l.map fun x : Nat => .int (x : Int)) = true ∧ PyData.depthAll (l.map fun x : Nat => .int (x : Int)) = 0
  | [] => ⟨rfl, rfl⟩
  | x :: l => by
    obtain ⟨h1, h2⟩ := natD_all l
    simp only [List.map_cons, PyData.canLayAll0, PyData.depthAll, h1, h2, PyData.canLay0, PyData.depth]
    exact ⟨rfl, rfl⟩
theorem natD_shaped (l : List Nat) : SeqAt.shaped (natD l) = true := by
  obtain ⟨h1, h2⟩ := natD_all l
  show (PyData.canLayAll0 _ && decide (PyData.depthAll _ + 1 ≤ 64)) = true
  rw [h1, h2]; rfl
theorem dp_nats {K : PySem.W.Frag} {H : Hp} : ∀ l : List Nat, DpAll K H (natsV l) (l.map fun x : Nat => .int (x : Int))
  | [] => .nil
  | x :: l => .cons (.int _) (dp_nats l)
theorem dp_nat {K : PySem.W.Frag} {H : Hp} {a : Addr} {l : List Nat} (h : H a = some (.tup (natsV l))) : Dp K H (.ref a) (natD l) := .tup (SqT.of h) (dp_nats l)
theorem way_get2 {H : Hp} {ws : Wl} {us : List V} (r : RpL H (ws.map wayD) us) {c : Nat} (hc : c < ws.length) : ∃ a, us[c]? = some (.ref a) ∧ H a = some (.tup [.int (way ws c).1, .int (way ws c).2.1, .int (way ws c).2.2]) := by
  have e : ws[c]? = some (way ws c) := by
    unfold way; rw [List.getD_eq_getElem?_getD, List.getElem?_eq_getElem hc]; rfl
  obtain ⟨v, h1, h2⟩ := r.get (i := c) (d := wayD (way ws c)) (by rw [List.getElem?_map, e]; rfl)
  obtain ⟨a, rfl, ha⟩ := way_at h2
  exact ⟨a, h1, ha⟩
theorem cls_eq {n : Nat} {es : List (Nat × Nat)} {h : Nat → Nat} (H : Hom n es h) {x y : Nat} (hx : x < n) (hy : y < n) : cls h n x = cls h n y ↔ h x = h y := by
  constructor
  · intro e
    have : x ∈ cls h n y := by rw [← e]; exact mem_cls.mpr ⟨hx, rfl⟩
    exact (mem_cls.mp this).2
  · intro e; unfold cls; rw [e]
theorem sort_nats {ns : List Int} {f : List Nat} (h : ns.Perm (f.map fun x : Nat => (x : Int))) (s : ns.Pairwise (· ≤ ·)) (nd : f.Nodup) : ∃ l : List Nat, ns = l.map (fun x : Nat => (x : Int)) ∧ l.Pairwise (· < ·) ∧ ∀ x, x ∈ l ↔ x ∈ f := by
  have hpos : ∀ z ∈ ns, ((z.toNat : Nat) : Int) = z := fun z hz => by
    obtain ⟨x, _, rfl⟩ := List.mem_map.mp (h.mem_iff.mp hz); rfl
  have e : ns = (ns.map Int.toNat).map (fun x : Nat => (x : Int)) := by
    rw [List.map_map]
    have := List.map_congr_left (f := id) (g := (fun x : Nat => (x : Int)) ∘ Int.toNat) fun z hz => (hpos z hz).symm
    rw [← this, List.map_id]
  have hp2 : (ns.map Int.toNat).Perm f := by
    have := h.map Int.toNat
    rw [List.map_map] at this
    have e2 : f.map (Int.toNat ∘ fun x : Nat => (x : Int)) = f := by
      have := List.map_congr_left (l := f) (f := Int.toNat ∘ fun x : Nat => (x : Int)) (g := id) fun z _ => by show Int.toNat (z : Int) = z; omega
      rw [this, List.map_id]
    rw [e2] at this; exact this
  have nd2 : (ns.map Int.toNat).Nodup := hp2.nodup_iff.mpr nd
  have s2 : (ns.map Int.toNat).Pairwise (· ≤ ·) := by
    rw [List.pairwise_map]
    exact s.imp fun {a b} hab => Int.toNat_le_toNat hab
  refine ⟨ns.map Int.toNat, e, ?_, fun x => hp2.mem_iff⟩
  exact (List.pairwise_and_iff.mpr ⟨s2, nd2⟩).imp fun {a b} hab => Nat.lt_of_le_of_ne hab.1 hab.2
theorem cls_len (h : Nat → Nat) (n p : Nat) : (cls h n p).length ≤ n := by
  have := List.length_filter_le (fun x => h x == h p) (List.range n); rw [List.length_range] at this; exact this
theorem reps_len (h : Nat → Nat) (n : Nat) : (reps h n).length ≤ n := by
  have := List.length_filter_le (fun x => h x == x) (List.range n); rw [List.length_range] at this; exact this
theorem cls_join {n : Nat} {es : List (Nat × Nat)} {h : Nat → Nat} (H : Hom n es h) {a b : Nat} (ha : a < n) (hb : b < n) (hne : h a ≠ h b) {ms : List Int} (hp : ms.Perm ((cls h n a ++ cls h n b).map fun x : Nat => (x : Int))) (hs : ms.Pairwise (· ≤ ·)) :
    ms = (cls (relab h a b) n a).map fun x : Nat => (x : Int) := by
  have nd : (cls h n a ++ cls h n b).Nodup := by
    rw [List.nodup_append]
    refine ⟨(cls_pw h n a).imp fun hab => Nat.ne_of_lt hab, (cls_pw h n b).imp fun hab => Nat.ne_of_lt hab, fun x hx y hy e => ?_⟩
    subst e
    exact hne ((mem_cls.mp hx).2.symm.trans (mem_cls.mp hy).2)
  obtain ⟨l, e, pw, hm⟩ := sort_nats hp hs nd
  rw [e]
  congr 1
  refine sorted_ext pw (cls_pw _ _ _) fun x => (hm x).trans ?_
  rw [List.mem_append, mem_cls, mem_cls, mem_cls]
  constructor
  · intro q
    have hx : x < n := by rcases q with q | q <;> exact q.1
    refine ⟨hx, ?_⟩
    have ea : relab h a b a = min (h a) (h b) := by rw [relab_eq H ha hb ha, if_pos (.inl rfl)]
    rw [relab_eq H ha hb hx, ea, if_pos (by rcases q with q | q; exact .inl q.2; exact .inr q.2)]
  · intro ⟨hx, q⟩
    rw [relab_eq H ha hb hx, relab_eq H ha hb ha, if_pos (c := h a = h a ∨ h a = h b) (.inl rfl)] at q
    by_cases z : h x = h a ∨ h x = h b
    · rcases z with z | z
      · exact .inl ⟨hx, z⟩
      · exact .inr ⟨hx, z⟩
    · rw [if_neg z] at q; omega
theorem cls_other {n : Nat} {es : List (Nat × Nat)} {h : Nat → Nat} (H : Hom n es h) {a b x : Nat} (ha : a < n) (hb : b < n) (hx : x < n) :
    (x ∈ cls (relab h a b) n a → cls (relab h a b) n x = cls (relab h a b) n a) ∧ (x ∉ cls (relab h a b) n a → cls (relab h a b) n x = cls h n x) := by
  constructor
  · intro q; have := (mem_cls.mp q).2; unfold cls; rw [this]
  · intro q
    have z : ¬ (h x = h a ∨ h x = h b) := fun z => q (mem_cls.mpr ⟨hx, by rw [show relab h a b a = min (h a) (h b) from by rw [relab_eq H ha hb ha, if_pos (.inl rfl)], relab_eq H ha hb hx, if_pos z]⟩)
    refine sorted_ext (cls_pw _ _ _) (cls_pw _ _ _) fun y => ?_
    rw [mem_cls, mem_cls]
    constructor
    · intro ⟨hy, e⟩
      refine ⟨hy, ?_⟩
      rw [relab_eq H ha hb hy, relab_eq H ha hb hx, if_neg z] at e
      by_cases w : h y = h a ∨ h y = h b
      · rw [if_pos w] at e; omega
      · rw [if_neg w] at e; exact e
    · intro ⟨hy, e⟩
      refine ⟨hy, ?_⟩
      rw [relab_eq H ha hb hy, relab_eq H ha hb hx, if_neg z, if_neg (by rw [e]; exact z)]; exact e
theorem TkL.snoc {K : PySem.W.Frag} {H : Hp} {t : Int} {c : Nat} {a : Addr} {tv : V} (ha : H a = some (.tup [tv, .int (c : Nat)])) (hf : FrV K H t tv) : ∀ {l : List (Int × Nat)} {vs : List V}, TkL K H l vs → TkL K H (l ++ [(t, c)]) (vs ++ [.ref a])
  | [], vs, h => by rw [show vs = [] from h]; exact ⟨a, tv, [], rfl, ha, hf, rfl⟩
  | (s, d) :: r, vs, ⟨b, sv, us, e, h1, h2, h3⟩ => by rw [e]; exact ⟨b, sv, us ++ [.ref a], rfl, h1, h2, TkL.snoc ha hf h3⟩
theorem TkL.len {K : PySem.W.Frag} {H : Hp} : ∀ {l : List (Int × Nat)} {vs : List V}, TkL K H l vs → vs.length = l.length
  | [], vs, h => by rw [show vs = [] from h] <;> rfl
  | (s, d) :: r, vs, ⟨b, sv, us, e, h1, h2, h3⟩ => by rw [e, List.length_cons, List.length_cons, TkL.len h3]
def firstV (ws : Wl) (S : Gs) : V := match first ws S with
  | some c => .int (c : Nat)
  | none => .non
theorem FieldAt.not {K : PySem.W.Frag} {aC : Addr} {H : Hp} {f : FAd} {n : Nat} {ws : Wl} {S : Gs} (F : FieldAt K aC H f n ws S) : ∀ b, Fm f b → ∃ o, H b = some o ∧ (∀ xs, o ≠ .tup xs) ∧ ∀ u xs, o ≠ .frz u xs := by
  obtain ⟨dx, tv, h1, h2⟩ := F.ob
  obtain ⟨v1, a1, a2⟩ := F.tk
  obtain ⟨v2, b1, b2⟩ := F.wd
  obtain ⟨v3, c1, c2, c3⟩ := F.hm
  obtain ⟨v4, d1, d2, d3⟩ := F.dp
  intro b hb
  rcases hb with z | z | z | z | z
  · exact ⟨(.ins aC dx (ff tv f)), by rw [z]; exact h1, (fun xs z => nomatch z), fun u xs z => nomatch z⟩
  · exact ⟨(.lst v1), by rw [z]; exact a1, (fun xs z => nomatch z), fun u xs z => nomatch z⟩
  · exact ⟨(.dT v2), by rw [z]; exact b1, (fun xs z => nomatch z), fun u xs z => nomatch z⟩
  · exact ⟨(.lst v3), by rw [z]; exact c1, (fun xs z => nomatch z), fun u xs z => nomatch z⟩
  · exact ⟨(.lst v4), by rw [z]; exact d1, (fun xs z => nomatch z), fun u xs z => nomatch z⟩
/-- a list that is no attribute is written -/
theorem FieldAt.o {K : PySem.W.Frag} {aC : Addr} {H : Hp} {f : FAd} {n : Nat} {ws : Wl} {S : Gs} {l : Addr} {xs ys : List V} (F : FieldAt K aC H f n ws S) (hl : ¬ Fm f l) (h : H l = some (.lst xs)) : FieldAt K aC (upd H l (.lst ys)) f n ws S := by
  have t : Tp K H (upd H l (.lst ys)) := Tp.mut h (fun xs z => nomatch z) (fun o xs z => nomatch z)
  have ne : ∀ b, Fm f b → b ≠ l := fun b m z => hl (z ▸ m)
  obtain ⟨dx, tv, h1, h2⟩ := F.ob
  obtain ⟨v1, a1, a2⟩ := F.tk
  obtain ⟨v2, b1, b2⟩ := F.wd
  obtain ⟨v3, c1, c2, c3⟩ := F.hm
  obtain ⟨v4, d1, d2, d3⟩ := F.dp
  obtain ⟨wa, us, e1, e2, e3⟩ := F.wy
  exact ⟨⟨dx, tv, by rw [upd_ne (ne _ (.inl rfl))]; exact h1, t.fr h2⟩, ⟨v1, by rw [upd_ne (ne _ (.inr (.inl rfl)))]; exact a1, t.tk a2⟩, ⟨v2, by rw [upd_ne (ne _ (.inr (.inr (.inl rfl))))]; exact b1, t.wd b2⟩,
    ⟨v3, by rw [upd_ne (ne _ (.inr (.inr (.inr (.inl rfl)))))]; exact c1, c2, fun x hx => by obtain ⟨s, q1, q2⟩ := c3 x hx; exact ⟨s, q1, t.tup _ _ q2⟩⟩,
    ⟨v4, by rw [upd_ne (ne _ (.inr (.inr (.inr (.inr rfl)))))]; exact d1, d2, fun x hx => by obtain ⟨v, q1, q2⟩ := d3 x hx; exact ⟨v, q1, t.fr q2⟩⟩, ⟨wa, us, e1, t.tup _ _ e2, t.rpl e3⟩, F.ne⟩
theorem Tp.ofF {K : PySem.W.Frag} {T : List Addr} {aC : Addr} {H H' : Hp} {f : FAd} {n : Nat} {ws : Wl} {S : Gs} (F : FieldAt K aC H f n ws S) (e : Ext T (Fm f) H H') : Tp K H H' := by
  have nm : ∀ b xs, H b = some (.tup xs) → ¬ Fm f b := fun b xs h m => by
    obtain ⟨o, h1, h2, _⟩ := F.not b m
    rw [h] at h1; exact h2 xs (Option.some.inj h1).symm
  have nf : ∀ b u xs, H b = some (.frz u xs) → ¬ Fm f b := fun b u xs h m => by
    obtain ⟨o, h1, _, h3⟩ := F.not b m
    rw [h] at h1; exact h3 u xs (Option.some.inj h1).symm
  refine ⟨fun b xs h => e.tup (nm b xs h) h, fun b xs h => ?_⟩
  rcases h with (h | ⟨o, h⟩) | h
  · exact .inl (.inl (e.tup (nm b xs h) h))
  · exact .inl (.inr ⟨o, e.kp _ _ (nf b o _ h) h fun ps z => by cases z⟩)
  · exact .inr h
def bornAll (ws : Wl) (n : Nat) : Nat → Gs → List (List Nat)
  | 0, _ => []
  | k + 1, S => match first ws S with
    | none => []
    | some c => cls (take1 ws S c).h n (way ws c).1 :: bornAll ws n k (take1 ws S c)
theorem born_stop {ws : Wl} {n : Nat} {S : Gs} (h : first ws S = none) : ∀ j, bornAll ws n j S = []
  | 0 => rfl
  | j + 1 => by show (match first ws S with | none => [] | some c => cls (take1 ws S c).h n (way ws c).1 :: bornAll ws n j (take1 ws S c)) = _; rw [h]
theorem born_go {ws : Wl} {n : Nat} {S : Gs} {c : Nat} (h : first ws S = some c) (j : Nat) : bornAll ws n (j + 1) S = cls (take1 ws S c).h n (way ws c).1 :: bornAll ws n j (take1 ws S c) := by
  show (match first ws S with | none => [] | some c => cls (take1 ws S c).h n (way ws c).1 :: bornAll ws n j (take1 ws S c)) = _; rw [h]
/-- tuples of places -/
def TupsL (H : Hp) (ls : List (List Nat)) (vs : List V) : Prop := vs.length = ls.length ∧ ∀ (i : Nat) (l : List Nat), ls[i]? = some l → ∃ t : Addr, vs[i]? = some (V.ref t) ∧ H t = some (.tup (natsV l))
theorem TupsL.nil {H : Hp} : TupsL H [] [] := ⟨rfl, fun i l h => by simp at h⟩
theorem TupsL.tup {H H' : Hp} {ls : List (List Nat)} {vs : List V} (h : TupsL H ls vs) (t : ∀ b xs, H b = some (.tup xs) → H' b = some (.tup xs)) : TupsL H' ls vs := ⟨h.1, fun i l e => by obtain ⟨u, q1, q2⟩ := h.2 i l e; exact ⟨u, q1, t _ _ q2⟩⟩
theorem TupsL.snoc {H : Hp} {ls : List (List Nat)} {vs : List V} {l : List Nat} {a : Addr} (h : TupsL H ls vs) (ha : H a = some (.tup (natsV l))) : TupsL H (ls ++ [l]) (vs ++ [.ref a]) := by
  refine ⟨by rw [List.length_append, List.length_append, h.1]; rfl, fun i x e => ?_⟩
  by_cases hi : i < ls.length
  · rw [List.getElem?_append_left hi] at e
    obtain ⟨u, q1, q2⟩ := h.2 i x e
    exact ⟨u, by rw [List.getElem?_append_left (by rw [h.1]; exact hi)]; exact q1, q2⟩
  · rw [List.getElem?_append_right (by omega)] at e
    have h2 : i = ls.length := by
      have := (List.getElem?_eq_some_iff.mp e).1
      rw [List.length_singleton] at this; omega
    subst h2
    have : l = x := by simpa using e
    subst this
    exact ⟨a, by rw [List.getElem?_append_right (by rw [h.1]; exact Nat.le_refl _), h.1]; simp, ha⟩
def spFull (K : PySem.W.Frag) (T : List Addr) (aC : Addr) : Sp := fun vs H Q _ => ∃ (f : FAd) (n t : Nat) (ws : Wl) (S : Gs), vs = [.ref f.p] ∧ FieldAt K aC H f n ws S ∧ WsOk n ws ∧ GB n ws t 300 S ∧ t ≤ 12 ∧ S.taken.length + (reps S.h n).length ≤ n ∧
  ∀ b bvs H', H' b = some (.lst bvs) → TupsL H' (bornAll ws n n S) bvs → ¬ Fm f b → H b = none → FieldAt K aC H' f n ws (takeAll ws n S) → Ext T (Fm f) H H' → Q (.ref b) H'
theorem takeAll_stop {ws : Wl} {S : Gs} (h : first ws S = none) : ∀ j, takeAll ws j S = S
  | 0 => rfl
  | j + 1 => by show (match first ws S with | none => S | some c => takeAll ws j (take1 ws S c)) = S; rw [h]
theorem takeAll_go {ws : Wl} {S : Gs} {c : Nat} (h : first ws S = some c) (j : Nat) : takeAll ws (j + 1) S = takeAll ws j (take1 ws S c) := by
  show (match first ws S with | none => S | some c => takeAll ws j (take1 ws S c)) = _; rw [h]
def spTake (K : PySem.W.Frag) (T : List Addr) (aC : Addr) : Sp := fun vs H Q _ => ∃ (f : FAd) (n t c : Nat) (ws : Wl) (S : Gs), vs = [.ref f.p, .int (c : Nat)] ∧ FieldAt K aC H f n ws S ∧ WsOk n ws ∧ GB n ws t 300 S ∧ c < ws.length ∧ crosses ws S c = true ∧ S.taken.length ≤ 100 ∧
  ∀ j H', H' j = some (.tup (natsV (cls (take1 ws S c).h n (way ws c).1))) → FieldAt K aC H' f n ws (take1 ws S c) → Ext T (Fm f) H H' → Q (.ref j) H'
theorem zero_fr {K : PySem.W.Frag} {H : Hp} {az : Addr} (h : SqT K (fun _ => none) az [.int (frX 0), .int (frY 0)]) : FrV K H 0 (.ref az) := by
  refine ⟨az, rfl, ?_⟩
  rcases h with (h | ⟨o, h⟩) | h
  · cases h
  · cases h
  · exact .inr h
theorem first_is {ws : Wl} {S : Gs} {i : Nat} (hi : i < ws.length) (h : full ws S i = true) (hno : ∀ c, c < i → full ws S c = false) : first ws S = some i := by
  unfold first
  rw [List.find?_range_eq_some]
  exact ⟨h, List.mem_range.mpr hi, fun j hj => by rw [hno j hj]; rfl⟩
def spFirst (K : PySem.W.Frag) (T : List Addr) (aC : Addr) : Sp := fun vs H Q _ => ∃ (f : FAd) (n t : Nat) (ws : Wl) (S : Gs), vs = [.ref f.p] ∧ FieldAt K aC H f n ws S ∧ WsOk n ws ∧ GB n ws t 300 S ∧ t ≤ 12 ∧ ∀ H', Ext T noM H H' → Q (match first ws S with | some c => .int (c : Nat) | none => .non) H'
def spSlack (K : PySem.W.Frag) (T : List Addr) (aC : Addr) : Sp := fun vs H Q _ => ∃ (f : FAd) (n : Nat) (ws : Wl) (S : Gs) (a b c : Nat), vs = [.ref f.p, .int (a : Nat), .int (b : Nat), .int (c : Nat)] ∧ FieldAt K aC H f n ws S ∧ a < n ∧ b < n ∧ n ≤ 12 ∧ 1 ≤ c ∧ c ≤ 10000 ∧ (∀ x, 0 ≤ S.dep x ∧ S.dep x ≤ 12288000000) ∧
  ∀ v H', FrV K H' ((c : Int) * 4096 - (S.dep a + S.dep b)) v → Ext T noM H H' → Q v H'
section
variable {P : Program} {w : World} {K : PySem.W.Frag} {mg : Str → Option Value} {base : Heap} {T : List Addr} {aC : Addr}
theorem ok_Field__slack {f : Addr} {fd : FuncData} (F : Fun K "_slack" "Field._slack" sField__slack f fd) {fminus : Addr} {fdminus : FuncData} (Fminus : Fun K "minus" "minus" sminus fminus fdminus) (Gminus : FnOk P w K mg base CX0 2 fminus fdminus ["first", "second"] (spMinus K T)) (bminus : Binds K fdminus ["first", "second"] []) (gminus : mg "minus" = some (.ref fminus)) {fplus : Addr} {fdplus : FuncData} (Fplus : Fun K "plus" "plus" splus fplus fdplus) (Gplus : FnOk P w K mg base CX0 2 fplus fdplus ["first", "second"] (spPlus K T)) (bplus : Binds K fdplus ["first", "second"] []) (gplus : mg "plus" = some (.ref fplus)) (fx : FTx K aC) : FnOk P w K mg base CX0 3 f fd ["self", "a", "b", "cost"] (spSlack K T aC) := by
  refine F.ok scField__slack (fun vs H Q E h => ?_) (fun cdv A outer s H vs Q E hr h => ?_)
  · obtain ⟨f, n, ws, S, a, b, c, rfl, F, ha, hb, n12, c1, c2, hd, k⟩ := h
    rfl
  · obtain ⟨f, n, ws, S, a, b, c, rfl, F, ha, hb, n12, c1, c2, hd, k⟩ := h
    refine ⟨_, (pss_one (ps_ret (pe_call Gminus hr (by rfl) gminus Fminus.kp bminus .nil pass0 (pa_cons (pe_tup (pa_cons (pv 3) (pa_cons pe_int pa_nil))) (pa_cons (pe_call Gplus hr (by rfl) gplus Fplus.kp bplus .nil pass0 (pa_cons (pe_ix ix_list (pe_fld (pv 0) rfl) (pv 1) (fun _ _ => rfl)) (pa_cons (pe_ix ix_list (pe_fld (pv 0) rfl) (pv 2) (fun _ _ => rfl)) pa_nil))) pa_nil))))), ?_⟩
    obtain ⟨dx, tv, hob, _⟩ := F.ob
    obtain ⟨vd, hld, hlen, hdp⟩ := F.dp
    obtain ⟨va, ga, fa⟩ := hdp a ha
    obtain ⟨vb, gb, fb⟩ := hdp b hb
    obtain ⟨f1, f2⟩ := fr_int (c : Int)
    have da := hd a
    have db := hd b
    refine ⟨_, rfl, by show 2 ≤ sizeLine; decide, fun t ht => ?_⟩
    have e1 : Ext T noM H (upd H t (.tup [.int (c : Nat), .int 1])) := Ext.new ht
    have hc : FrV K (upd H t (.tup [.int (c : Nat), .int 1])) ((c : Int) * 4096) (.ref t) := ⟨t, rfl, SqT.of (by rw [upd_same, f1, f2])⟩
    have hob1 := e1.kp _ _ (fun z => z) hob (fun ps z => nomatch z)
    have hld1 := e1.lst (fun z => z) hld
    refine ⟨_, rfl, f.p, aC, dx, _, _, rfl, hob1, fx.cl, fx.n_depths, ff_depths _ _, _, rfl, f.ld, _, _, _, rfl, rfl, SqL.of hld1, at_of (j := a) rfl ga, ?_⟩
    refine ⟨_, rfl, f.p, aC, dx, _, _, rfl, hob1, fx.cl, fx.n_depths, ff_depths _ _, _, rfl, f.ld, _, _, _, rfl, rfl, SqL.of hld1, at_of (j := b) rfl gb, ?_⟩
    refine ⟨va, vb, _, _, rfl, fa.x e1, fb.x e1, ⟨by omega, by omega⟩, ⟨by omega, by omega⟩, fun z H2 hz e2 => ?_⟩
    exact ⟨_, z, _, _, rfl, hc.x e2, hz, ⟨by omega, by omega⟩, ⟨by omega, by omega⟩, fun r H3 hr e3 => k r H3 hr ((e1.trans e2).trans e3)⟩
theorem ok_Field__first_full_way {f : Addr} {fd : FuncData} (F : Fun K "_first_full_way" "Field._first_full_way" sField__first_full_way f fd) (m_enumerate : mg "enumerate" = none) {fless : Addr} {fdless : FuncData} (Fless : Fun K "less" "less" sless fless fdless) (Gless : FnOk P w K mg base CX0 3 fless fdless ["first", "second"] (spLess K T)) (bless : Binds K fdless ["first", "second"] []) (gless : mg "less" = some (.ref fless)) {fField__slack : Addr} {fdField__slack : FuncData} (FField__slack : Fun K "_slack" "Field._slack" sField__slack fField__slack fdField__slack) (GField__slack : FnOk P w K mg base CX0 3 fField__slack fdField__slack ["self", "a", "b", "cost"] (spSlack K T aC)) (bField__slack : Binds K fdField__slack ["self", "a", "b", "cost"] []) (mmField__slack : Meth K aC "_slack" fField__slack) {az : Addr} (g_ZERO : mg "ZERO" = some (.ref az)) (hz0 : SqT K (fun _ => none) az [.int (frX 0), .int (frY 0)]) (fx : FTx K aC) : FnOk P w K mg base CX0 4 f fd ["self"] (spFirst K T aC) := by
  refine F.ok scField__first_full_way (fun vs H Q E h => ?_) (fun cdv A outer s H vs Q E hr h => ?_)
  · obtain ⟨f, n, t, ws, S, rfl, F, W, G, t12, k⟩ := h
    rfl
  · obtain ⟨f, n, t, ws, S, rfl, F, W, G, t12, k⟩ := h
    refine ⟨_, (pss_cons (ps_for PassesOwn.never rfl (GE.pi_enumT (by rfl) m_enumerate (pa_cons (pe_fld (pv 0) rfl) pa_nil)) (pg_tup (by rfl) (pgs_cons (pg_name (i := 1) scField__first_full_way.nd rfl (Or.inl rfl)) (pgs_cons (pg_tup (by rfl) (pgs_cons (pg_name (i := 2) scField__first_full_way.nd rfl (Or.inl rfl)) (pgs_cons (pg_name (i := 3) scField__first_full_way.nd rfl (Or.inl rfl)) (pgs_cons (pg_name (i := 4) scField__first_full_way.nd rfl (Or.inl rfl)) pgs_nil)))) pgs_nil))) (pss_one (ps_if (PW.pt (pw_and (pt_cmpR (op_neD (by have := hr.un; show (A.deeper _).units + 64 < _; omega)) (pe_ix ix_list (pe_fld (pv 0) rfl) (pv 2) (fun _ _ => rfl)) (pe_ix ix_list (pe_fld (pv 0) rfl) (pv 3) (fun _ _ => rfl)) (nomark _)) (pw_and1 (pt_not (pt_val (pe_call Gless hr (by rfl) gless Fless.kp bless .nil pass0 (pa_cons (pe_glob (v := .ref az) (by rfl) g_ZERO rfl) (pa_cons (pe_meth (pv 0) fx.cl mmField__slack GField__slack hr bField__slack .nil pass0 (pa_cons (pv 2) (pa_cons (pv 3) (pa_cons (pv 4) pa_nil)))) pa_nil)))))))) (pss_one (ps_ret (pv 1))) pss_nil)))
      (pss_one (ps_ret pe_non))), ?_⟩
    obtain ⟨dx, tv, hob, _⟩ := F.ob
    obtain ⟨vh, hlh, hlenh, hhm⟩ := F.hm
    obtain ⟨wa, us, ewt, hwa, hus⟩ := F.wy
    obtain ⟨es, HM⟩ := G.hom
    have n12 := W.n12
    have hd : ∀ x, 0 ≤ S.dep x ∧ S.dep x ≤ 12288000000 := fun x => by have := G.d0 x; omega
    have hul : us.length = ws.length := by rw [hus.len, List.length_map]
    refine ⟨_, rfl, f.p, aC, dx, _, _, rfl, hob, fx.cl, fx.n_ways, ff_ways _ _, wa, us, by rw [ewt], SqT.of hwa, ?_⟩
    refine for_it (n := us.length) walk_enumT (fun i σ' H' => ∃ y1 y2 y3 y4, σ' = [some (.ref f.p), y1, y2, y3, y4] ∧ Ext T noM H H' ∧ ∀ c, c < i → full ws S c = false) ⟨none, none, none, none, rfl, Ext.refl _ _ _, fun c hc => absurd hc (Nat.not_lt_zero _)⟩ (fun i σ' H' _ ⟨_, _, _, _, _, e, _⟩ => SqT.of (e.tup (fun z => z) hwa)) ?_ ?_
    · rintro i x σ' H1 H2 hi ⟨y1, y2, y3, y4, rfl, e, hno⟩ ⟨Tp, x1, x2, rfl, hT, rfl, h1, h2⟩
      obtain rfl := Option.some.inj h1
      have h2 : us[i]? = some x2 := h2
      have hc : i < ws.length := by omega
      obtain ⟨xa, g1, g2⟩ := way_get2 hus hc
      rw [g1] at h2
      obtain rfl := Option.some.inj h2
      have e2 : Ext T noM H (upd H1 Tp (.tup [.int (i : Nat), .ref xa])) := e.trans (Ext.new hT)
      have g3 := e2.tup (fun z => z) g2
      obtain ⟨w1, w2, w3, w4⟩ := W.ok i hc
      have hob2 := e2.kp _ _ (fun z => z) hob (fun ps z => nomatch z)
      have hlh2 := e2.lst (fun z => z) hlh
      have ha : (way ws i).1 < n := Nat.lt_trans w1 w2
      obtain ⟨ta, ga1, ga2⟩ := hhm _ ha
      obtain ⟨tb, gb1, gb2⟩ := hhm _ w2
      have ceq := cls_eq HM ha w2
      refine ⟨Tp, _, rfl, SqT.of upd_same, rfl, _, _, rfl, _, _, rfl, ⟨xa, _, rfl, SqT.of g3, rfl, _, _, rfl, _, _, rfl, _, _, rfl, rfl, rfl, ?_⟩⟩
      refine ⟨_, rfl, f.p, aC, dx, _, _, rfl, hob2, fx.cl, fx.n_homes, ff_homes _ _, _, rfl, f.lh, _, _, _, rfl, rfl, SqL.of hlh2, at_of (j := (way ws i).1) rfl ga1, ?_⟩
      refine ⟨_, rfl, f.p, aC, dx, _, _, rfl, hob2, fx.cl, fx.n_homes, ff_homes _ _, _, rfl, f.lh, _, _, _, rfl, rfl, SqL.of hlh2, at_of (j := (way ws i).2.1) rfl gb1, ?_⟩
      refine ⟨natD _, natD _, dp_nat (e2.tup (fun z => z) ga2), dp_nat (e2.tup (fun z => z) gb2), natD_shaped _, natD_shaped _, _, rfl, ?_⟩
      have eqv : PyData.eqv (natD (cls S.h n (way ws i).1)) (natD (cls S.h n (way ws i).2.1)) = decide (cls S.h n (way ws i).1 = cls S.h n (way ws i).2.1) := eqv_nat _ _
      rw [eqv]
      have next : ∀ H', Ext T noM H H' → full ws S i = false → ∃ y1 y2 y3 y4, (((([some (.ref f.p), y1, y2, y3, y4] : L2.St).set 1 (some (.int (i : Nat)))).set 2 (some (.int (way ws i).1))).set 3 (some (.int (way ws i).2.1))).set 4 (some (.int (way ws i).2.2)) = [some (.ref f.p), y1, y2, y3, y4] ∧ Ext T noM H H' ∧ ∀ c, c < i + 1 → full ws S c = false := fun H' e' hf => ⟨_, _, _, _, rfl, e', fun c hc => by
        rcases Nat.lt_or_eq_of_le (Nat.le_of_lt_succ hc) with q | q
        · exact hno c q
        · rw [q]; exact hf⟩
      refine ite2 (fun q => ?_) (fun q => iteF (next _ e2 ?_))
      · have hx : crosses ws S i = true := decide_eq_true fun z => by rw [decide_eq_true (ceq.mpr z)] at q; cases q
        refine ⟨_, rfl, f.p, dx, _, rfl, hob2, by rfl, _, rfl, _, rfl, _, rfl, f, n, ws, S, _, _, _, rfl, F.x e2, ha, w2, n12, w3, w4, hd, fun v H3 hv e3 => ?_⟩
        have hv : FrV K H3 (lack ws S i) v := hv
        have hlk : lack ws S i = ((way ws i).2.2 : Int) * 4096 - (S.dep (way ws i).1 + S.dep (way ws i).2.1) := rfl
        have d1 := hd (way ws i).1
        have d2 := hd (way ws i).2.1
        refine ⟨.ref az, v, 0, _, rfl, zero_fr hz0, hv, ⟨by decide, by decide⟩, ⟨by omega, by omega⟩, fun H4 e4 => ⟨_, rfl, ?_⟩⟩
        have e24 := (e2.trans e3).trans e4
        refine ite2 (fun q2 => ?_) (fun q2 => next _ e24 ?_)
        · have q3 : ¬ (0 < lack ws S i) := fun z => by rw [decide_eq_true z] at q2; cases q2
          have hf : first ws S = some i := first_is hc (by unfold full; rw [hx, decide_eq_true (by omega)]; rfl) hno
          have := k H4 e24
          rw [hf] at this
          exact ⟨_, rfl, this⟩
        · have q3 : 0 < lack ws S i := Classical.byContradiction fun z => q2 (by rw [decide_eq_false z]; rfl)
          unfold full; rw [decide_eq_false (by omega), Bool.and_false]
      · have hx : crosses ws S i = false := decide_eq_false fun z => q (by rw [decide_eq_false fun y => z (ceq.mp y)]; rfl)
        unfold full; rw [hx, Bool.false_and]
    · rintro σ' H1 ⟨y1, y2, y3, y4, rfl, e, hno⟩
      rw [hul] at hno
      have hf : first ws S = none := List.find?_eq_none.mpr fun c hc => by rw [hno c (List.mem_range.mp hc)]; exact Bool.false_ne_true
      have := k H1 e
      rw [hf] at this
      exact this
theorem ok_Field__take {f : Addr} {fd : FuncData} (F : Fun K "_take" "Field._take" sField__take f fd) (m_tuple : mg "tuple" = none) (m_sorted : mg "sorted" = none) (fx : FTx K aC) : FnOk P w K mg base CX0 1 f fd ["self", "way"] (spTake K T aC) := by
  refine F.ok scField__take (fun vs H Q E h => ?_) (fun cdv A outer s H vs Q E hr h => ?_)
  · obtain ⟨f, n, t, c, ws, S, rfl, F, W, G, hc, hx, htk, k⟩ := h
    rfl
  · obtain ⟨f, n, t, c, ws, S, rfl, F, W, G, hc, hx, htk, k⟩ := h
    refine ⟨_, (pss_cons (ps_asg (pe_ix ix_tup (pe_fld (pv 0) rfl) (pv 1) (fun _ _ => rfl)) (pg_tup (by rfl) (pgs_cons (pg_name (i := 2) scField__take.nd rfl (Or.inl rfl)) (pgs_cons (pg_name (i := 3) scField__take.nd rfl (Or.inl rfl)) (pgs_cons (pg_name (i := 4) scField__take.nd rfl (Or.inl rfl)) pgs_nil)))))
      (pss_cons (ps_set (i := 5) scField__take.nd rfl (Or.inl rfl) (pe_callTy call_tuple_of (by rfl) m_tuple (by decide +kernel) (pa_cons (pe_callB GE.cr_sortedTI (by rfl) m_sorted (by decide +kernel) (pa_cons (pe_op op_catT (pe_ix ix_list (pe_fld (pv 0) rfl) (pv 2) (fun _ _ => rfl)) (pe_ix ix_list (pe_fld (pv 0) rfl) (pv 3) (fun _ _ => rfl))) pa_nil)) pa_nil)))
      (pss_cons (ps_for PassesOwn.never rfl (pi_tup (pv 5)) (pg_name (i := 6) scField__take.nd rfl (Or.inl rfl)) (pss_one (ps_asg (pv 5) (pg_sub (pe_fld (pv 0) rfl) (pv 6) set_list))))
      (pss_cons (ps_expr (pe_bm PySem.F.plainAttrs_list PySem.F.slot_list_append PySem.F.type_list_append mt_append (pe_fld (pv 0) rfl) (pa_cons (pe_tup (pa_cons (pe_fld (pv 0) rfl) (pa_cons (pv 1) pa_nil))) pa_nil)))
      (pss_one (ps_ret (pv 5))))))), ?_⟩
    obtain ⟨dx, tv, hob, htv⟩ := F.ob
    obtain ⟨vh, hlh, hlenh, hhm⟩ := F.hm
    obtain ⟨vt, hlt, htl⟩ := F.tk
    obtain ⟨wa, us, ewt, hwa, hus⟩ := F.wy
    obtain ⟨es, HM⟩ := G.hom
    have n12 := W.n12
    obtain ⟨w1, w2, w3, w4⟩ := W.ok c hc
    have ha : (way ws c).1 < n := Nat.lt_trans w1 w2
    obtain ⟨xa, g1, g2⟩ := way_get2 hus hc
    obtain ⟨ta, ga1, ga2⟩ := hhm _ ha
    obtain ⟨tb, gb1, gb2⟩ := hhm _ w2
    have hne := of_decide_eq_true hx
    have l1 := cls_len S.h n (way ws c).1
    have l2 := cls_len S.h n (way ws c).2.1
    refine ⟨_, rfl, f.p, aC, dx, _, _, rfl, hob, fx.cl, fx.n_ways, ff_ways _ _, _, rfl, wa, _, _, _, ewt, rfl, SqT.of hwa, at_of (j := c) rfl g1, xa, _, rfl, SqT.of g2, rfl, _, _, rfl, _, _, rfl, _, _, rfl, rfl, ?_⟩
    refine ⟨_, rfl, f.p, aC, dx, _, _, rfl, hob, fx.cl, fx.n_homes, ff_homes _ _, _, rfl, f.lh, _, _, _, rfl, rfl, SqL.of hlh, at_of (j := (way ws c).1) rfl ga1, ?_⟩
    refine ⟨_, rfl, f.p, aC, dx, _, _, rfl, hob, fx.cl, fx.n_homes, ff_homes _ _, _, rfl, f.lh, _, _, _, rfl, rfl, SqL.of hlh, at_of (j := (way ws c).2.1) rfl gb1, ?_⟩
    have hcat : natsV (cls S.h n (way ws c).1) ++ natsV (cls S.h n (way ws c).2.1) = ((cls S.h n (way ws c).1 ++ cls S.h n (way ws c).2.1).map fun x : Nat => (x : Int)).map V.int := by
      unfold natsV; rw [← List.map_append, List.map_map]; rfl
    have nea : ∀ x, x < n → natsV (cls S.h n x) ≠ [] := fun x hx => by
      obtain ⟨r, hr⟩ := cls_head HM hx
      rw [hr]; exact List.cons_ne_nil _ _
    refine ⟨ta, tb, _, _, rfl, rfl, SqT.of ga2, SqT.of gb2, nea _ ha, Nat.le_of_lt (small1000 ?_), fun z => absurd z (nea _ w2), fun _ p1 hp1 => ?_⟩
    · unfold natsV; rw [List.length_map, List.length_map]; omega
    rw [hcat]
    have e1 : Ext T noM H (upd H p1 (.tup (((cls S.h n (way ws c).1 ++ cls S.h n (way ws c).2.1).map fun x : Nat => (x : Int)).map V.int))) := Ext.new hp1
    refine ⟨p1, _, rfl, SqT.of upd_same, fun ms l hms hsrt hl => ?_⟩
    have ems := cls_join HM ha w2 hne hms hsrt
    subst ems
    have hJ : ((cls (relab S.h (way ws c).1 (way ws c).2.1) n (way ws c).1).map fun x : Nat => (x : Int)).map V.int = natsV (cls (relab S.h (way ws c).1 (way ws c).2.1) n (way ws c).1) := by unfold natsV; rw [List.map_map]; rfl
    rw [hJ]
    have hco := fun x (hx : x < n) => cls_other HM ha w2 hx
    generalize hJJ : cls (relab S.h (way ws c).1 (way ws c).2.1) n (way ws c).1 = J at hco ⊢
    have hJn : ∀ x ∈ J, x < n := fun x hx => by rw [← hJJ] at hx; exact (mem_cls.mp hx).1
    have hJl : J.length ≤ n := by rw [← hJJ]; exact cls_len _ _ _
    generalize (upd H p1 (.tup (((cls S.h n (way ws c).1 ++ cls S.h n (way ws c).2.1).map fun x : Nat => (x : Int)).map V.int))) = H1 at e1 hl ⊢
    have e2 : Ext T noM H1 (upd H1 l (.lst (natsV J))) := Ext.new hl
    refine ⟨l, _, rfl, .inl ⟨SqL.of upd_same, fun t1 ht1 => ?_⟩⟩
    have e3 : Ext T noM (upd H1 l (.lst (natsV J))) (upd (upd H1 l (.lst (natsV J))) t1 (.tup (natsV J))) := Ext.new ht1
    have e13 := (e1.trans e2).trans e3
    have hz : (upd (upd H1 l (.lst (natsV J))) t1 (.tup (natsV J))) t1 = some (.tup (natsV J)) := upd_same
    generalize (upd (upd H1 l (.lst (natsV J))) t1 (.tup (natsV J))) = H3 at e13 hz ⊢
    have hob3 := e13.kp _ _ (fun z => z) hob (fun ps z => nomatch z)
    have hlh3 := e13.lst (fun z => z) hlh
    have nph : f.p ≠ f.lh := fun z => by rw [z, hlh3] at hob3; cases hob3
    have nt1 : t1 ≠ f.lh := fun z => by rw [z, hlh3] at hz; cases hz
    refine ⟨_, rfl, t1, rfl, ⟨_, SqT.of hz⟩, for_tup (K := K) (a := t1) (xs := natsV J) (fun i σ' H' => ∃ y vs, σ' = [some (.ref f.p), some (.int (c : Nat)), some (.int (way ws c).1), some (.int (way ws c).2.1), some (.int (way ws c).2.2), some (.ref t1), y] ∧ H' f.lh = some (.lst vs) ∧ (∀ b, b ≠ f.lh → H' b = H3 b) ∧ vs.length = n ∧
        ∀ x, x < n → vs[x]? = if x ∈ J.take i then some (.ref t1) else vh[x]?) ⟨none, vh, rfl, hlh3, fun b _ => rfl, hlenh, fun x _ => by rw [if_neg (by simp)]⟩ (fun i σ' H' _ ⟨_, _, _, _, q, _⟩ => SqT.of (by rw [q _ nt1]; exact hz)) ?_ ?_⟩
    · rintro i x σ' H4 hx4 ⟨y, vs, rfl, hv, hoth, hvl, hvx⟩
      obtain ⟨j, hj, rfl⟩ : ∃ j, J[i]? = some j ∧ x = V.int ((j : Nat) : Int) := by
        unfold natsV at hx4
        rw [List.getElem?_map] at hx4
        cases e : J[i]? with
        | none => rw [e] at hx4; cases hx4
        | some c => rw [e] at hx4; exact ⟨c, rfl, (Option.some.inj hx4).symm⟩
      have hjn := hJn j (List.mem_of_getElem? hj)
      have hob4 : H4 f.p = some (.ins aC dx (ff tv f)) := by rw [hoth _ nph]; exact hob3
      refine ⟨_, rfl, _, rfl, f.p, aC, dx, _, _, rfl, hob4, fx.cl, fx.n_homes, ff_homes _ _, _, rfl, f.lh, vs, _, j, rfl, rfl, hv, Evl.ixN_nat (by omega), ?_⟩
      refine ⟨_, vs.set j (.ref t1), rfl, upd_same, fun b hb => by rw [upd_ne hb]; exact hoth b hb, by rw [List.length_set]; exact hvl, fun x hx => ?_⟩
      rw [take_succ' hj]
      by_cases q : x = j
      · subst q
        rw [if_pos (by simp), List.getElem?_set_self (by omega)]
      · rw [List.getElem?_set_ne (fun z => q z.symm), hvx x hx]
        by_cases q2 : x ∈ J.take i
        · rw [if_pos q2, if_pos (List.mem_append_left _ q2)]
        · rw [if_neg q2, if_neg (fun z => by rcases List.mem_append.mp z with z | z; exact q2 z; exact q (List.mem_singleton.mp z))]
    · rintro σ' H4 ⟨y, vs, rfl, hv, hoth, hvl, hvx⟩
      have hnl : (natsV J).length = J.length := by unfold natsV; rw [List.length_map]
      rw [hnl, List.take_length] at hvx
      have hob4 : H4 f.p = some (.ins aC dx (ff tv f)) := by rw [hoth _ nph]; exact hob3
      have hlt3 := e13.lst (fun z => z) hlt
      have hlt4 : H4 f.lt = some (.lst vt) := by rw [hoth _ F.ne.1]; exact hlt3
      have htl' := htl.len
      refine ⟨_, rfl, f.p, aC, dx, _, _, rfl, hob4, fx.cl, fx.n_taken, ff_taken _ _, .inl ⟨rfl, _, SqL.of hlt4⟩, ?_⟩
      refine ⟨_, rfl, f.p, aC, dx, _, _, rfl, hob4, fx.cl, fx.n_time, ff_time _ _, _, rfl, by show 2 ≤ sizeLine; decide, fun t2 ht2 => ?_⟩
      have e5 : Ext T noM H4 (upd H4 t2 (.tup [tv, .int (c : Nat)])) := Ext.new ht2
      have hlt5 := e5.lst (fun z => z) hlt4
      have nlt : f.lt ≠ t2 := ne_of_none hlt4 ht2
      refine ⟨f.lt, vt, _, rfl, rfl, hlt5, small1000 (by omega), _, rfl, k t1 _ ?_ ?_ ?_⟩
      · show _ = some (HO.tup (natsV (cls (relab S.h (way ws c).1 (way ws c).2.1) n (way ws c).1)))
        rw [hJJ]
        have tp4 : Tp K H3 H4 := Tp.only hlh3 (fun xs z => nomatch z) (fun o xs z => nomatch z) hoth
        have tp5 : Tp K H4 (upd H4 t2 (.tup [tv, .int (c : Nat)])) := Tp.of e5
        have tp6 : Tp K (upd H4 t2 (.tup [tv, .int (c : Nat)])) (upd (upd H4 t2 (.tup [tv, .int (c : Nat)])) f.lt (.lst (vt ++ [.ref t2]))) := Tp.mut hlt5 (fun xs z => nomatch z) (fun o xs z => nomatch z)
        exact ((tp4.trans tp5).trans tp6).tup _ _ hz
      · have tp3 : Tp K H H3 := Tp.of e13
        have tp4 : Tp K H3 H4 := Tp.only hlh3 (fun xs z => nomatch z) (fun o xs z => nomatch z) hoth
        have tp5 : Tp K H4 (upd H4 t2 (.tup [tv, .int (c : Nat)])) := Tp.of e5
        have tp6 : Tp K (upd H4 t2 (.tup [tv, .int (c : Nat)])) (upd (upd H4 t2 (.tup [tv, .int (c : Nat)])) f.lt (.lst (vt ++ [.ref t2]))) := Tp.mut hlt5 (fun xs z => nomatch z) (fun o xs z => nomatch z)
        have tp := ((tp3.trans tp4).trans tp5).trans tp6
        have keep : ∀ b o, H b = some o → (∀ ps, o ≠ .tbl ps) → b ≠ f.lh → b ≠ f.lt → (upd (upd H4 t2 (.tup [tv, .int (c : Nat)])) f.lt (.lst (vt ++ [.ref t2]))) b = some o := fun b o hb nb n1 n2 => by
          rw [upd_ne n2]
          have : H4 b = some o := by rw [hoth _ n1]; exact e13.kp _ _ (fun z => z) hb nb
          rw [upd_ne (ne_of_none this ht2)]; exact this
        have npt : f.p ≠ f.lt := fun z => by rw [z, hlt] at hob; cases hob
        obtain ⟨kvs, b1, b2⟩ := F.wd
        have nwh : f.lw ≠ f.lh := fun z => by rw [z, hlh] at b1; cases b1
        have nwt : f.lw ≠ f.lt := fun z => by rw [z, hlt] at b1; cases b1
        obtain ⟨vd, d1, d2, d3⟩ := F.dp
        refine ⟨⟨dx, tv, keep _ _ hob (fun ps z => nomatch z) nph npt, tp.fr htv⟩, ⟨_, upd_same, ?_⟩, ⟨kvs, keep _ _ b1 (fun ps z => nomatch z) nwh nwt, tp.wd b2⟩, ⟨vs, ?_, hvl, fun x hx => ?_⟩, ⟨vd, keep _ _ d1 ltbl (fun z => F.ne.2.2 z.symm) (fun z => F.ne.2.1 z.symm), d2, fun x hx => by obtain ⟨v, q1, q2⟩ := d3 x hx; exact ⟨v, q1, tp.fr q2⟩⟩, ⟨wa, us, ewt, tp.tup _ _ hwa, tp.rpl hus⟩, F.ne⟩
        · refine TkL.snoc (tv := tv) ?_ (tp.fr htv) (tp.tk htl)
          rw [upd_ne (fun z => nlt z.symm), upd_same]
        · rw [upd_ne (fun z => F.ne.1 z.symm)]
          rw [upd_ne (ne_of_none hv ht2)]; exact hv
        · have hx' := hvx x hx
          obtain ⟨o1, o2⟩ := hco x hx
          show ∃ t, vs[x]? = some (V.ref t) ∧ _ = some (HO.tup (natsV (cls (relab S.h (way ws c).1 (way ws c).2.1) n x)))
          by_cases q : x ∈ J
          · rw [if_pos q] at hx'
            exact ⟨t1, hx', by rw [o1 q]; exact (tp4.trans (tp5.trans tp6)).tup _ _ hz⟩
          · rw [if_neg q] at hx'
            obtain ⟨tt, q1, q2⟩ := hhm x hx
            exact ⟨tt, by rw [hx', q1], by rw [o2 q]; exact tp.tup _ _ q2⟩
      · have eo : Ext T (Fm f) H3 H4 := Ext.only (p := f.lh) (.inr (.inr (.inr (.inl rfl)))) hlh3 ltbl hv hoth
        exact ((e13.weak.trans eo).trans e5.weak).mut (.inr (.inr (.inl rfl))) hlt5 ltbl
theorem ok_Field_take_full_ways {f : Addr} {fd : FuncData} (F : Fun K "take_full_ways" "Field.take_full_ways" sField_take_full_ways f fd) {fField__first_full_way : Addr} {fdField__first_full_way : FuncData} (FField__first_full_way : Fun K "_first_full_way" "Field._first_full_way" sField__first_full_way fField__first_full_way fdField__first_full_way) (GField__first_full_way : FnOk P w K mg base CX0 4 fField__first_full_way fdField__first_full_way ["self"] (spFirst K T aC)) (bField__first_full_way : Binds K fdField__first_full_way ["self"] []) (mmField__first_full_way : Meth K aC "_first_full_way" fField__first_full_way) {fField__take : Addr} {fdField__take : FuncData} (FField__take : Fun K "_take" "Field._take" sField__take fField__take fdField__take) (GField__take : FnOk P w K mg base CX0 4 fField__take fdField__take ["self", "way"] (spTake K T aC)) (bField__take : Binds K fdField__take ["self", "way"] []) (mmField__take : Meth K aC "_take" fField__take) (fx : FTx K aC) : FnOk P w K mg base CX0 5 f fd ["self"] (spFull K T aC) := by
  refine F.ok scField_take_full_ways (fun vs H Q E h => ?_) (fun cdv A outer s H vs Q E hr h => ?_)
  · obtain ⟨f, n, t, ws, S, rfl, F0, W, G, t12, hcnt, k⟩ := h
    rfl
  · obtain ⟨f, n, t, ws, S, rfl, F0, W, G, t12, hcnt, k⟩ := h
    refine ⟨_, (pss_cons (ps_set (i := 1) scField_take_full_ways.nd rfl (Or.inl rfl) (pe_lst pa_nil))
      (pss_cons (ps_set (i := 2) scField_take_full_ways.nd rfl (Or.inl rfl) (pe_meth0 (pv 0) fx.cl mmField__first_full_way GField__first_full_way hr bField__first_full_way .nil pass0))
      (pss_cons (ps_while PassesOwn.never (pt_cmpR op_notN (pv 2) pe_non (nomark _)) (pss_cons (ps_expr (pe_bm PySem.F.plainAttrs_list PySem.F.slot_list_append PySem.F.type_list_append mt_append (pv 1) (pa_cons (pe_meth (pv 0) fx.cl mmField__take GField__take hr bField__take .nil pass0 (pa_cons (pv 2) pa_nil)) pa_nil)))
      (pss_one (ps_set (i := 2) scField_take_full_ways.nd rfl (Or.inl rfl) (pe_meth0 (pv 0) fx.cl mmField__first_full_way GField__first_full_way hr bField__first_full_way .nil pass0)))))
      (pss_one (ps_ret (pv 1)))))), ?_⟩
    have n12 := W.n12
    refine ⟨by show 0 ≤ sizeLine; decide, fun b hb => ?_⟩
    have hbF : ¬ Fm f b := fun m => by obtain ⟨o, q, _⟩ := F0.not b m; rw [hb] at q; cases q
    have e0 : Ext T noM H (upd H b (.lst [])) := Ext.new hb
    have F := F0.x e0
    have hb0 : (upd H b (.lst [])) b = some (.lst []) := upd_same
    generalize (upd H b (.lst [])) = H0 at e0 F hb0 ⊢
    obtain ⟨dx, tv, hob, htv⟩ := F.ob
    refine ⟨_, rfl, f.p, dx, _, rfl, hob, by rfl, f, n, t, ws, S, rfl, F, W, G, t12, fun H1 e1 => ?_⟩
    refine ⟨fun j σ' H' => ∃ S' bvs dn, σ' = [some (.ref f.p), some (.ref b), some (firstV ws S')] ∧ FieldAt K aC H' f n ws S' ∧ GB n ws t 300 S' ∧ (reps S'.h n).length ≤ j ∧ takeAll ws j S' = takeAll ws n S ∧ S'.taken.length + (reps S'.h n).length ≤ n ∧ H' b = some (.lst bvs) ∧ TupsL H' dn bvs ∧ dn ++ bornAll ws n j S' = bornAll ws n n S ∧ dn.length + (reps S'.h n).length ≤ n ∧ Ext T (Fm f) H H',
      ⟨n, S, [], [], rfl, F.x e1, G, reps_len _ _, rfl, hcnt, e1.lst (fun z => z) hb0, TupsL.nil, rfl, by have := reps_len S.h n; simp; omega, (e0.trans e1).weak⟩, ?_⟩
    rintro j σ' H2 ⟨S', bvs, dn, rfl, F2, G2, hr, heq, hcn, hb2, TL, hdn, hdl, e2⟩
    refine ⟨_, rfl, rfl, _, rfl, ?_⟩
    cases hf : first ws S' with
    | none =>
      have e : firstV ws S' = .non := by unfold firstV; rw [hf]
      rw [e]
      refine iteF ?_
      rw [takeAll_stop hf] at heq
      rw [born_stop hf, List.append_nil] at hdn
      exact ⟨_, rfl, k b bvs H2 hb2 (hdn ▸ TL) hbF hb (heq ▸ F2) e2⟩
    | some c =>
      have e : firstV ws S' = .int (c : Nat) := by unfold firstV; rw [hf]
      rw [e]
      obtain ⟨hc, hx, _⟩ := first_some hf
      obtain ⟨G3, hlt⟩ := G2.take W hc hx
      obtain ⟨i, rfl⟩ : ∃ i, j = i + 1 := ⟨j - 1, by omega⟩
      rw [takeAll_go hf] at heq
      rw [born_go hf] at hdn
      obtain ⟨dx2, tv2, hob2, _⟩ := F2.ob
      refine iteT ⟨fun σ' H' => ∃ S' bvs dn, σ' = [some (.ref f.p), some (.ref b), some (firstV ws S')] ∧ FieldAt K aC H' f n ws S' ∧ GB n ws t 300 S' ∧ (reps S'.h n).length ≤ i ∧ takeAll ws i S' = takeAll ws n S ∧ S'.taken.length + (reps S'.h n).length ≤ n ∧ H' b = some (.lst bvs) ∧ TupsL H' dn bvs ∧ dn ++ bornAll ws n i S' = bornAll ws n n S ∧ dn.length + (reps S'.h n).length ≤ n ∧ Ext T (Fm f) H H', fun σ' H' q => ⟨i, Nat.lt_succ_self i, q⟩, ?_⟩
      refine ⟨_, rfl, .inl ⟨rfl, _, SqL.of hb2⟩, ?_⟩
      refine ⟨_, rfl, f.p, dx2, _, rfl, hob2, by rfl, _, rfl, f, n, t, c, ws, S', rfl, F2, W, G2, hc, hx, by omega, fun jt H3 hjt F3 e3 => ?_⟩
      have hb3 := e3.lst hbF hb2
      have tp3 : Tp K H2 H3 := Tp.ofF F2 e3
      have bl := TL.1
      refine ⟨b, bvs, _, rfl, rfl, hb3, small1000 (by omega), ?_⟩
      have tp4 : Tp K H3 (upd H3 b (.lst (bvs ++ [.ref jt]))) := Tp.mut hb3 (fun xs z => nomatch z) (fun o xs z => nomatch z)
      have e34 : Ext T (Fm f) H (upd H3 b (.lst (bvs ++ [.ref jt]))) := (e2.trans e3).mut (.inl hb) hb3 ltbl
      have F4 := F3.o (ys := bvs ++ [.ref jt]) hbF hb3
      have TL4 := (TL.tup (tp3.trans tp4).tup).snoc (tp4.tup _ _ hjt)
      have hb4 : (upd H3 b (.lst (bvs ++ [.ref jt]))) b = some (.lst (bvs ++ [.ref jt])) := upd_same
      generalize (upd H3 b (.lst (bvs ++ [.ref jt]))) = H4 at e34 F4 TL4 hb4 ⊢
      obtain ⟨dx3, tv3, hob3, _⟩ := F4.ob
      refine ⟨_, rfl, f.p, dx3, _, rfl, hob3, by rfl, f, n, t, ws, take1 ws S' c, rfl, F4, W, G3, t12, fun H5 e5 => ?_⟩
      refine ⟨take1 ws S' c, bvs ++ [.ref jt], dn ++ [cls (take1 ws S' c).h n (way ws c).1], rfl, F4.x e5, G3, by omega, heq, ?_, e5.lst (fun z => z) hb4, TL4.tup fun b xs => e5.tup (fun z => z), by rw [List.append_assoc]; exact hdn, ?_, e34.trans e5.weak⟩
      · show (S'.taken ++ [(S'.time, c)]).length + _ ≤ n
        rw [List.length_append, List.length_singleton]; omega
      · rw [List.length_append, List.length_singleton]; omega
end
end Mw

set_option Elab.async false
set_option linter.all false
set_option maxRecDepth 100000
set_option maxHeartbeats 4000000
namespace Mw
open PySem PySem.Spec PyProof.Rows L2 GE
theorem op_neDK {X : Cx} {K : PySem.W.Frag} (hu : X.A.units + 64 < cLine) (h : X.K = K := by rfl) : OpR X (compareOp .NotEq) (rNeD K) := h ▸ op_neD hu
theorem op_inDTK {X : Cx} {K : PySem.W.Frag} (hu : X.A.units + 65 < cLine) (h : X.K = K := by rfl) : OpR X (compareOp .In) (rInDT K false) := h ▸ op_inDT hu
def betw (ws : Wl) (S : Gs) : List Nat := (List.range ws.length).filter (crosses ws S)
theorem filter_take {f : Nat → Bool} {n i : Nat} (hi : i ≤ n) : ((List.range n).take i) = List.range i := by rw [List.take_range, Nat.min_eq_left hi]
/-- the tuple of the open groups -/
structure RisV (K : PySem.W.Frag) (H : Hp) (n : Nat) (h : Nat → Nat) (R : List Nat) (v : V) : Prop where
  at_ : ∃ (a : Addr) (vs : List V), v = .ref a ∧ H a = some (.tup vs) ∧ vs.length = R.length ∧ ∀ (i r : Nat), R[i]? = some r → ∃ t : Addr, vs[i]? = some (V.ref t) ∧ H t = some (.tup (natsV (cls h n r)))
  ok : ∀ r ∈ R, r < n ∧ h r = r
theorem RisV.x {K : PySem.W.Frag} {T : List Addr} {H H' : Hp} {n : Nat} {h : Nat → Nat} {R : List Nat} {v : V} (r : RisV K H n h R v) (e : Ext T noM H H') : RisV K H' n h R v := by
  obtain ⟨⟨a, vs, e1, e2, e3, e4⟩, ok⟩ := r
  exact ⟨⟨a, vs, e1, e.tup (fun z => z) e2, e3, fun i q hq => by obtain ⟨t, q1, q2⟩ := e4 i q hq; exact ⟨t, q1, e.tup (fun z => z) q2⟩⟩, ok⟩
theorem dp_list {K : PySem.W.Frag} {H : Hp} {n : Nat} {h : Nat → Nat} : ∀ (R : List Nat) (vs : List V), vs.length = R.length → (∀ (i r : Nat), R[i]? = some r → ∃ t : Addr, vs[i]? = some (V.ref t) ∧ H t = some (.tup (natsV (cls h n r)))) → DpAll K H vs (R.map fun r => natD (cls h n r))
  | [], vs, hl, _ => by rw [List.eq_nil_of_length_eq_zero hl]; exact .nil
  | r :: R, [], hl, _ => by simp at hl
  | r :: R, v :: vs, hl, hx => by
    obtain ⟨t, q1, q2⟩ := hx 0 r rfl
    have e : v = .ref t := by simpa using q1
    rw [e]
    exact .cons (dp_nat q2) (dp_list R vs (by simpa using hl) fun i q hq => by simpa using hx (i + 1) q (by simpa using hq))
theorem natDs_shaped {h : Nat → Nat} {n : Nat} (R : List Nat) : SeqAt.shaped (.tuple (R.map fun r => natD (cls h n r))) = true := by
  have key : ∀ R : List Nat, PyData.canLayAll0 (R.map fun r => natD (cls h n r)) = true ∧ PyData.depthAll (R.map fun r => natD (cls h n r)) ≤ 1 := by
    intro R
    induction R with
    | nil => exact ⟨rfl, Nat.zero_le _⟩
    | cons r R ih =>
      obtain ⟨h1, h2⟩ := natD_all (cls h n r)
      simp only [List.map_cons, PyData.canLayAll0, PyData.depthAll, natD, PyData.canLay0, PyData.depth, h1, h2]
      simp only [natD] at ih
      exact ⟨by rw [ih.1]; rfl, by omega⟩
  obtain ⟨h1, h2⟩ := key R
  show (PyData.canLayAll0 _ && decide (PyData.depthAll _ + 1 ≤ 64)) = true
  rw [h1, Bool.true_and, decide_eq_true_eq]; omega
theorem ris_any {n : Nat} {es : List (Nat × Nat)} {h : Nat → Nat} (HM : Hom n es h) {R : List Nat} (ok : ∀ r ∈ R, r < n ∧ h r = r) {x : Nat} (hx : x < n) : ((R.map fun r => natD (cls h n r)).any fun z => PyData.eqv z (natD (cls h n x))) = decide (h x ∈ R) := by
  have e : ∀ r ∈ R, PyData.eqv (natD (cls h n r)) (natD (cls h n x)) = decide (r = h x) := fun r hr => by
    have e1 : PyData.eqv (natD (cls h n r)) (natD (cls h n x)) = decide (cls h n r = cls h n x) := eqv_nat _ _
    rw [e1, decide_eq_decide, cls_eq HM (ok r hr).1 hx, (ok r hr).2]
  rw [List.any_map]
  cases q : decide (h x ∈ R) with
  | true => exact List.any_eq_true.mpr ⟨h x, of_decide_eq_true q, by show PyData.eqv _ _ = true; rw [e _ (of_decide_eq_true q), decide_eq_true rfl]⟩
  | false =>
    refine List.any_eq_false.mpr fun r hr z => ?_
    have z2 : decide (r = h x) = true := (e r hr).symm.trans z
    exact of_decide_eq_false q (of_decide_eq_true z2 ▸ hr)
def cn (ws : Wl) (S : Gs) (R : List Nat) (c j : Nat) : Nat := (if 0 < j ∧ S.h (way ws c).1 ∈ R then 1 else 0) + (if 1 < j ∧ S.h (way ws c).2.1 ∈ R then 1 else 0)
theorem cn_le (ws : Wl) (S : Gs) (R : List Nat) (c j : Nat) : cn ws S R c j ≤ 2 := by unfold cn; split <;> split <;> omega
theorem cn_two (ws : Wl) (S : Gs) (R : List Nat) (c : Nat) : cn ws S R c 2 = spd ws S R c := by unfold cn spd; simp
theorem cand_bd {n t : Nat} {ws : Wl} {S : Gs} (W : WsOk n ws) (G : GB n ws t 300 S) (ht : t < 12) (R : List Nat) {c : Nat} (hc : c < ws.length) (h0 : 0 < spd ws S R c) : bd (cand ws S R c) := by
  obtain ⟨e, _⟩ := G.cand_eq ht R h0
  have h2 := spd_le ws S R c
  have d1 := G.d0 (way ws c).1
  have d2 := G.d0 (way ws c).2.1
  obtain ⟨_, _, w3, w4⟩ := W.ok c hc
  have hl : lack ws S c = ((way ws c).2.2 : Int) * 4096 - (S.dep (way ws c).1 + S.dep (way ws c).2.1) := rfl
  unfold bd
  rcases (show spd ws S R c = 1 ∨ spd ws S R c = 2 by omega) with z | z <;> rw [z] at e <;> omega
def spSpan (K : PySem.W.Frag) (T : List Addr) (aC : Addr) : Sp := fun vs H Q _ => ∃ (f : FAd) (n t : Nat) (ws : Wl) (S : Gs) (R : List Nat) (rv : V), vs = [.ref f.p, rv] ∧ FieldAt K aC H f n ws S ∧ WsOk n ws ∧ GB n ws t 300 S ∧ ws.length ≤ 24 ∧ t < 12 ∧ RisV K H n S.h R rv ∧
  ∀ v H', (match least ((canW ws S R).map (cand ws S R)) with | some x => FrV K H' x v | none => v = .non) → Ext T noM H H' → Q v H'
def spBetw (K : PySem.W.Frag) (T : List Addr) (aC : Addr) : Sp := fun vs H Q _ => ∃ (f : FAd) (n t : Nat) (ws : Wl) (S : Gs), vs = [.ref f.p] ∧ FieldAt K aC H f n ws S ∧ WsOk n ws ∧ GB n ws t 300 S ∧ ws.length ≤ 24 ∧
  ∀ l vs H', H l = none → H' l = some (.lst vs) → RpL H' ((betw ws S).map fun c => wayD (way ws c)) vs → Ext T noM H H' → Q (.ref l) H'
section
variable {P : Program} {w : World} {K : PySem.W.Frag} {mg : Str → Option Value} {base : Heap} {T : List Addr} {aC : Addr}
theorem ok_Field__ways_between {f : Addr} {fd : FuncData} (F : Fun K "_ways_between" "Field._ways_between" sField__ways_between f fd) (fx : FTx K aC) : FnOk P w K mg base CX0 1 f fd ["self"] (spBetw K T aC) := by
  refine F.ok scField__ways_between (fun vs H Q E h => ?_) (fun cdv A outer s H vs Q E hr h => ?_)
  · obtain ⟨f, n, t, ws, S, rfl, F, W, G, h24, k⟩ := h
    rfl
  · obtain ⟨f, n, t, ws, S, rfl, F, W, G, h24, k⟩ := h
    refine ⟨_, (pss_one (ps_ret (pe_lc (own := [("way", 1)]) (g := (gName 1)) rfl scField__ways_between.nd (pi_tup (pe_fld (pv 0) rfl)) (blkOk_by (own := [("way", 1)]) (N := ["self", "way"]) (sc := defScope sField__ways_between) (by decide +kernel)) (fun _ _ _ _ _ => (pg_name (i := 1) scField__ways_between.nd rfl (Or.inl rfl))) (fun _ _ _ _ _ => (pts_one (pt_cmpR (op_neDK (K := K) (by have := hr.un; show (A.deeper _).units + 64 < _; omega)) (pe_ix (GE.ix_listK (K := K)) (GE.pe_fldK (K := K) (pv 0) rfl) (pe_ix (GE.ix_tupK (K := K)) (pv 1) pe_int (fun _ _ => rfl)) (fun _ _ => rfl)) (pe_ix (GE.ix_listK (K := K)) (GE.pe_fldK (K := K) (pv 0) rfl) (pe_ix (GE.ix_tupK (K := K)) (pv 1) pe_int (fun _ _ => rfl)) (fun _ _ => rfl)) (nomark _)))) (fun _ _ _ _ _ => (pv 1))))), ?_⟩
    obtain ⟨dx, tv, hob, _⟩ := F.ob
    obtain ⟨vh, hlh, hlenh, hhm⟩ := F.hm
    obtain ⟨wa, us, ewt, hwa, hus⟩ := F.wy
    obtain ⟨es, HM⟩ := G.hom
    have hul : us.length = ws.length := by rw [hus.len, List.length_map]
    refine ⟨_, rfl, f.p, aC, dx, _, _, rfl, hob, fx.cl, fx.n_ways, ff_ways _ _, wa, ewt, ⟨_, SqT.of hwa⟩, fun Dl hD => ?_⟩
    have e1 : Ext T noM H (upd H Dl (.lst [])) := Ext.new hD
    refine lc_tup (K := K) (a := wa) (xs := us) (fun j H' => ∃ vs, Ext T noM H H' ∧ H' Dl = some (.lst vs) ∧ RpL H' (((List.range j).filter (crosses ws S)).map fun c => wayD (way ws c)) vs) ⟨[], e1, upd_same, rpl_nil⟩ (fun j H' _ ⟨_, e, _⟩ => SqT.of (e.tup (fun z => z) hwa)) ?_ ?_
    · rintro j x H3 hx ⟨vs, e, hD3, r3⟩
      have hj : j < ws.length := by have := (List.getElem?_eq_some_iff.mp hx).1; omega
      obtain ⟨xa, g1, g2⟩ := way_get2 hus hj
      rw [hx] at g1
      obtain rfl := Option.some.inj g1
      obtain ⟨w1, w2, _⟩ := W.ok j hj
      have ha : (way ws j).1 < n := Nat.lt_trans w1 w2
      obtain ⟨ta, ga1, ga2⟩ := hhm _ ha
      obtain ⟨tb, gb1, gb2⟩ := hhm _ w2
      have ceq := cls_eq HM ha w2
      have g3 := e.tup (fun z => z) g2
      have hob3 := e.kp _ _ (fun z => z) hob (fun ps z => nomatch z)
      have hlh3 := e.lst (fun z => z) hlh
      have hfl : ((List.range (j + 1)).filter (crosses ws S)) = (List.range j).filter (crosses ws S) ++ if crosses ws S j then [j] else [] := filter_range_succ _ _
      refine ⟨rfl, ?_⟩
      refine ⟨_, rfl, f.p, aC, dx, _, _, rfl, hob3, fx.cl, fx.n_homes, ff_homes _ _, _, rfl, xa, _, _, _, rfl, rfl, SqT.of g3, at_of (j := 0) rfl rfl, f.lh, _, _, _, rfl, rfl, SqL.of hlh3, at_of (j := (way ws j).1) rfl ga1, ?_⟩
      refine ⟨_, rfl, f.p, aC, dx, _, _, rfl, hob3, fx.cl, fx.n_homes, ff_homes _ _, _, rfl, xa, _, _, _, rfl, rfl, SqT.of g3, at_of (j := 1) rfl rfl, f.lh, _, _, _, rfl, rfl, SqL.of hlh3, at_of (j := (way ws j).2.1) rfl gb1, ?_⟩
      refine ⟨natD _, natD _, dp_nat (e.tup (fun z => z) ga2), dp_nat (e.tup (fun z => z) gb2), natD_shaped _, natD_shaped _, _, rfl, ?_⟩
      have eqv : PyData.eqv (natD (cls S.h n (way ws j).1)) (natD (cls S.h n (way ws j).2.1)) = decide (cls S.h n (way ws j).1 = cls S.h n (way ws j).2.1) := eqv_nat _ _
      rw [eqv]
      refine ite2 (fun q => ?_) (fun q => ?_)
      · have hxx : crosses ws S j = true := decide_eq_true fun z => by rw [decide_eq_true (ceq.mpr z)] at q; cases q
        rw [hxx, if_pos rfl] at hfl
        refine ⟨_, rfl, vs, hD3, ?_, vs ++ [.ref xa], e.mut (.inl hD) hD3 ltbl, upd_same, ?_⟩
        · have h1 := r3.len
          have h2 := List.length_filter_le (crosses ws S) (List.range j)
          rw [List.length_map] at h1
          rw [List.length_range] at h2
          exact small1000 (by omega)
        · rw [hfl, List.map_append]
          exact rpl_upd (RpL.snoc r3 (rp_way g3)) hD3
      · have hxx : crosses ws S j = false := decide_eq_false fun z => q (by rw [decide_eq_false fun y => z (ceq.mp y)]; rfl)
        rw [hxx, if_neg (by simp), List.append_nil] at hfl
        exact ⟨vs, e, hD3, by rw [hfl]; exact r3⟩
    · rintro H3 ⟨vs, e, hD3, r3⟩
      rw [hul] at r3
      exact k Dl vs H3 hD hD3 r3 e
theorem ok_Field_span_until_full {f : Addr} {fd : FuncData} (F : Fun K "span_until_full" "Field.span_until_full" sField_span_until_full f fd) (m_len : mg "len" = none) {fField__ways_between : Addr} {fdField__ways_between : FuncData} (FField__ways_between : Fun K "_ways_between" "Field._ways_between" sField__ways_between fField__ways_between fdField__ways_between) (GField__ways_between : FnOk P w K mg base CX0 3 fField__ways_between fdField__ways_between ["self"] (spBetw K T aC)) (bField__ways_between : Binds K fdField__ways_between ["self"] []) (mmField__ways_between : Meth K aC "_ways_between" fField__ways_between) {fField__slack : Addr} {fdField__slack : FuncData} (FField__slack : Fun K "_slack" "Field._slack" sField__slack fField__slack fdField__slack) (GField__slack : FnOk P w K mg base CX0 3 fField__slack fdField__slack ["self", "a", "b", "cost"] (spSlack K T aC)) (bField__slack : Binds K fdField__slack ["self", "a", "b", "cost"] []) (mmField__slack : Meth K aC "_slack" fField__slack) {fratio : Addr} {fdratio : FuncData} (Fratio : Fun K "ratio" "ratio" sratio fratio fdratio) (Gratio : FnOk P w K mg base CX0 3 fratio fdratio ["top", "bottom"] (spRatio K T)) (bratio : Binds K fdratio ["top", "bottom"] []) (gratio : mg "ratio" = some (.ref fratio)) {fless : Addr} {fdless : FuncData} (Fless : Fun K "less" "less" sless fless fdless) (Gless : FnOk P w K mg base CX0 3 fless fdless ["first", "second"] (spLess K T)) (bless : Binds K fdless ["first", "second"] []) (gless : mg "less" = some (.ref fless)) (fx : FTx K aC) : FnOk P w K mg base CX0 4 f fd ["self", "rising"] (spSpan K T aC) := by
  refine F.ok scField_span_until_full (fun vs H Q E h => ?_) (fun cdv A outer s H vs Q E hr h => ?_)
  · obtain ⟨f, n, t, ws, S, R, rv, rfl, F, W, G, h24, t12, RV, k⟩ := h
    rfl
  · obtain ⟨f, n, t, ws, S, R, rv, rfl, F, W, G, h24, t12, RV, k⟩ := h
    refine ⟨_, (pss_cons (ps_set (i := 2) scField_span_until_full.nd rfl (Or.inl rfl) pe_non)
      (pss_cons (ps_for PassesOwn.never rfl (pi_list (pe_meth0 (pv 0) fx.cl mmField__ways_between GField__ways_between hr bField__ways_between .nil pass0)) (pg_tup (by rfl) (pgs_cons (pg_name (i := 3) scField_span_until_full.nd rfl (Or.inl rfl)) (pgs_cons (pg_name (i := 4) scField_span_until_full.nd rfl (Or.inl rfl)) (pgs_cons (pg_name (i := 5) scField_span_until_full.nd rfl (Or.inl rfl)) pgs_nil)))) (pss_cons (ps_set (i := 6) scField_span_until_full.nd rfl (Or.inl rfl) (pe_callB call_len_seq (by rfl) m_len PySem.boot_len (pa_cons (pe_lc (own := [("group", 7)]) (g := (gName 7)) rfl scField_span_until_full.nd (pi_tup (pe_tup (pa_cons (pe_ix ix_list (pe_fld (pv 0) rfl) (pv 3) (fun _ _ => rfl)) (pa_cons (pe_ix ix_list (pe_fld (pv 0) rfl) (pv 4) (fun _ _ => rfl)) pa_nil)))) (blkOk_by (own := [("group", 7)]) (N := ["self", "rising", "best", "a", "b", "cost", "speed", "group", "slack", "span"]) (sc := defScope sField_span_until_full) (by decide +kernel)) (fun _ _ _ _ _ => (pg_name (i := 7) scField_span_until_full.nd rfl (Or.inl rfl))) (fun _ _ _ _ _ => (pts_one (pt_cmpR (op_inDTK (K := K) (by have := hr.un; show (A.deeper _).units + 65 < _; omega)) (pv 7) (pv 1) (by rfl)))) (fun _ _ _ _ _ => (pv 7))) pa_nil)))
      (pss_one (ps_if (pt_cmpR op_gt (pv 6) pe_int (nomark _)) (pss_cons (ps_set (i := 8) scField_span_until_full.nd rfl (Or.inl rfl) (pe_meth (pv 0) fx.cl mmField__slack GField__slack hr bField__slack .nil pass0 (pa_cons (pv 3) (pa_cons (pv 4) (pa_cons (pv 5) pa_nil)))))
      (pss_cons (ps_set (i := 9) scField_span_until_full.nd rfl (Or.inl rfl) (pe_call Gratio hr (by rfl) gratio Fratio.kp bratio .nil pass0 (pa_cons (pe_ix ix_tup (pv 8) pe_int (fun _ _ => rfl)) (pa_cons (pe_op op_mul (pe_ix ix_tup (pv 8) pe_int (fun _ _ => rfl)) (pv 6)) pa_nil))))
      (pss_one (ps_if (PW.pt (pw_or (pt_cmpR op_isN (pv 2) pe_non (nomark _)) (pw_or1 (pt_val (pe_call Gless hr (by rfl) gless Fless.kp bless .nil pass0 (pa_cons (pv 9) (pa_cons (pv 2) pa_nil))))))) (pss_one (ps_set (i := 2) scField_span_until_full.nd rfl (Or.inl rfl) (pv 9))) pss_nil)))) pss_nil))))
      (pss_one (ps_ret (pv 2))))), ?_⟩
    obtain ⟨dx, tv, hob, _⟩ := F.ob
    obtain ⟨vh, hlh, hlenh, hhm⟩ := F.hm
    obtain ⟨es, HM⟩ := G.hom
    obtain ⟨ra, rvs, rfl, hra, hrl, hrx⟩ := RV.at_
    have n12 := W.n12
    have hd : ∀ x, 0 ≤ S.dep x ∧ S.dep x ≤ 12288000000 := fun x => by have := G.d0 x; omega
    refine ⟨_, rfl, f.p, dx, _, rfl, hob, by rfl, f, n, t, ws, S, rfl, F, W, G, h24, fun l vs H1 hl hl1 hr1 e1 => ?_⟩
    have hbl : vs.length = (betw ws S).length := by rw [hr1.len, List.length_map]
    refine ⟨l, rfl, ⟨_, SqL.of hl1⟩, for_list (K := K) (a := l) (xs := vs) (fun i σ' H' => ∃ bv y3 y4 y5 y6 y7 y8 y9, σ' = [some (.ref f.p), some (.ref ra), some bv, y3, y4, y5, y6, y7, y8, y9] ∧ Ext T noM H H' ∧ H' l = some (.lst vs) ∧ RpL H' ((betw ws S).map fun c => wayD (way ws c)) vs ∧
        (match least ((((betw ws S).take i).filter fun c => decide (0 < spd ws S R c)).map (cand ws S R)) with | some x => FrV K H' x bv | none => bv = .non)) ⟨_, _, _, _, _, _, _, _, rfl, e1, hl1, hr1, rfl⟩ (fun i σ' H' _ ⟨_, _, _, _, _, _, _, _, _, _, q, _⟩ => SqL.of q) ?_ ?_⟩
    · rintro i x σ' H2 hx ⟨bv, y3, y4, y5, y6, y7, y8, y9, rfl, e2, hl2, hr2, hbest⟩
      have hi : i < (betw ws S).length := by have := (List.getElem?_eq_some_iff.mp hx).1; omega
      obtain ⟨c, hc⟩ : ∃ c, (betw ws S)[i]? = some c := ⟨_, List.getElem?_eq_getElem hi⟩
      obtain ⟨x', hx', hr⟩ := hr2.get (i := i) (d := wayD (way ws c)) (by rw [List.getElem?_map, hc]; rfl)
      rw [hx] at hx'
      obtain rfl := Option.some.inj hx'
      obtain ⟨xa, rfl, hxa⟩ := way_at hr
      obtain ⟨hcm, hcx⟩ := List.mem_filter.mp (List.mem_of_getElem? hc)
      have hcl := List.mem_range.mp hcm
      obtain ⟨w1, w2, w3, w4⟩ := W.ok c hcl
      have ha : (way ws c).1 < n := Nat.lt_trans w1 w2
      obtain ⟨ta, ga1, ga2⟩ := hhm _ ha
      obtain ⟨tb, gb1, gb2⟩ := hhm _ w2
      have hob2 := e2.kp _ _ (fun z => z) hob (fun ps z => nomatch z)
      have hlh2 := e2.lst (fun z => z) hlh
      refine ⟨xa, _, rfl, SqT.of hxa, rfl, _, _, rfl, _, _, rfl, _, _, rfl, rfl, ?_⟩
      refine ⟨_, rfl, f.p, aC, dx, _, _, rfl, hob2, fx.cl, fx.n_homes, ff_homes _ _, _, rfl, f.lh, _, _, _, rfl, rfl, SqL.of hlh2, at_of (j := (way ws c).1) rfl ga1, ?_⟩
      refine ⟨_, rfl, f.p, aC, dx, _, _, rfl, hob2, fx.cl, fx.n_homes, ff_homes _ _, _, rfl, f.lh, _, _, _, rfl, rfl, SqL.of hlh2, at_of (j := (way ws c).2.1) rfl gb1, by show 2 ≤ sizeLine; decide, fun tt htt => ?_⟩
      have ett : Ext T noM H2 (upd H2 tt (.tup [.ref ta, .ref tb])) := Ext.new htt
      have htt2 : (upd H2 tt (.tup [.ref ta, .ref tb])) tt = some (.tup [.ref ta, .ref tb]) := upd_same
      generalize (upd H2 tt (.tup [.ref ta, .ref tb])) = Ht at ett htt2 ⊢
      refine ⟨tt, rfl, ⟨_, SqT.of htt2⟩, fun Dl hD => ?_⟩
      refine lc_tup (K := K) (a := tt) (xs := [.ref ta, .ref tb]) (fun j H' => ∃ acc, Ext T noM Ht H' ∧ H' Dl = some (.lst acc) ∧ acc.length = cn ws S R c j) ⟨[], Ext.new hD, upd_same, by unfold cn; simp⟩ (fun j H' _ ⟨_, e, _⟩ => SqT.of (e.tup (fun z => z) htt2)) ?_ ?_
      · rintro j x H3 hx3 ⟨acc, e3, hD3, hal⟩
        have hcn := cn_le ws S R c j
        have e3' := (e2.trans ett).trans e3
        match j, hx3 with
        | 0, hx3 =>
          obtain rfl : V.ref ta = x := by simpa using hx3
          have hin := ris_any HM RV.ok ha
          refine ⟨rfl, _, rfl, _, rfl, natD _, _, dp_nat (e3'.tup (fun z => z) ga2), .tup (SqT.of (e3'.tup (fun z => z) hra)) (dp_list R rvs hrl fun i r hr => by obtain ⟨q, q1, q2⟩ := hrx i r hr; exact ⟨q, q1, e3'.tup (fun z => z) q2⟩), natD_shaped _, natDs_shaped _, _, rfl, ?_⟩
          rw [if_neg (by decide), hin]
          refine ite2 (fun q => ?_) (fun q => ?_)
          · have q' := of_decide_eq_true q
            refine ⟨_, rfl, acc, hD3, small1000 (by omega), acc ++ [.ref ta], e3.mut (.inl hD) hD3 ltbl, upd_same, ?_⟩
            rw [List.length_append, List.length_singleton, hal]
            unfold cn; simp [q']
          · have q' : ¬ S.h (way ws c).1 ∈ R := fun z => q (decide_eq_true z)
            refine ⟨acc, e3, hD3, ?_⟩
            rw [hal]
            unfold cn; simp [q']
        | 1, hx3 =>
          obtain rfl : V.ref tb = x := by simpa using hx3
          have hin := ris_any HM RV.ok w2
          refine ⟨rfl, _, rfl, _, rfl, natD _, _, dp_nat (e3'.tup (fun z => z) gb2), .tup (SqT.of (e3'.tup (fun z => z) hra)) (dp_list R rvs hrl fun i r hr => by obtain ⟨q, q1, q2⟩ := hrx i r hr; exact ⟨q, q1, e3'.tup (fun z => z) q2⟩), natD_shaped _, natDs_shaped _, _, rfl, ?_⟩
          rw [if_neg (by decide), hin]
          refine ite2 (fun q => ?_) (fun q => ?_)
          · have q' := of_decide_eq_true q
            refine ⟨_, rfl, acc, hD3, small1000 (by omega), acc ++ [.ref tb], e3.mut (.inl hD) hD3 ltbl, upd_same, ?_⟩
            rw [List.length_append, List.length_singleton, hal]
            unfold cn; simp [q']
          · have q' : ¬ S.h (way ws c).2.1 ∈ R := fun z => q (decide_eq_true z)
            refine ⟨acc, e3, hD3, ?_⟩
            rw [hal]
            unfold cn; simp [q']
        | j + 2, hx3 => simp at hx3
      rintro H3 ⟨acc, e3, hD3, hal⟩
      rw [show ([V.ref ta, V.ref tb] : List V).length = 2 from rfl, cn_two] at hal
      refine ⟨Dl, acc, rfl, .inl (SqL.of hD3), ?_⟩
      rw [hal]
      have e23 := ett.trans e3
      have eH3 := e2.trans e23
      refine ⟨_, rfl, _, _, rfl, rfl, _, rfl, ?_⟩
      have hft : ((betw ws S).take (i + 1)).filter (fun c => decide (0 < spd ws S R c)) = ((betw ws S).take i).filter (fun c => decide (0 < spd ws S R c)) ++ if 0 < spd ws S R c then [c] else [] := by
        rw [take_succ' hc, List.filter_append]; by_cases z : 0 < spd ws S R c <;> simp [z]
      have hsp2 := spd_le ws S R c
      have old : ∀ H' y9, Ext T noM H2 H' → (match least ((((betw ws S).take (i + 1)).filter fun c => decide (0 < spd ws S R c)).map (cand ws S R)) with | some x => FrV K H' x y9 | none => y9 = .non) → Ext T noM H H' ∧ H' l = some (.lst vs) ∧ RpL H' ((betw ws S).map fun c => wayD (way ws c)) vs ∧
          (match least ((((betw ws S).take (i + 1)).filter fun c => decide (0 < spd ws S R c)).map (cand ws S R)) with | some x => FrV K H' x y9 | none => y9 = .non) := fun H' y9 e q => ⟨e2.trans e, e.lst (fun z => z) hl2, RpL.x e hr2, q⟩
      refine ite2 (fun q => ?_) (fun q => ?_)
      · have hs0 : 0 < spd ws S R c := by have := of_decide_eq_true q; omega
        rw [if_pos hs0] at hft
        obtain ⟨hce, _⟩ := G.cand_eq t12 R hs0
        have d1 := hd (way ws c).1
        have d2 := hd (way ws c).2.1
        refine ⟨_, rfl, f.p, dx, _, rfl, eH3.kp _ _ (fun z => z) hob (fun ps z => nomatch z), by rfl, _, rfl, _, rfl, _, rfl, f, n, ws, S, _, _, _, rfl, F.x eH3, ha, w2, n12, w3, w4, hd, fun v H4 hv e4 => ?_⟩
        have hv : FrV K H4 (lack ws S c) v := hv
        obtain ⟨sa, rfl, hsa⟩ := hv
        have y1 := frY_pos (lack ws S c)
        have y2 := frY_le (lack ws S c)
        have hb : 0 < frY (lack ws S c) * (spd ws S R c : Int) ∧ frY (lack ws S c) * (spd ws S R c : Int) < 1073741824 := by
          rcases (show spd ws S R c = 1 ∨ spd ws S R c = 2 by omega) with z | z <;> rw [z] <;> omega
        refine ⟨_, rfl, sa, _, _, _, rfl, rfl, hsa, at_of (j := 0) rfl rfl, _, rfl, sa, _, _, _, rfl, rfl, hsa, at_of (j := 1) rfl rfl, _, rfl, _, _, rfl, rfl, .inl (muly _), _, _, cand ws S R c, rfl, hb.1, hb.2, fr_span hce.symm, fun z H5 hz e5 => ?_⟩
        have bnd := fun c (hc : c < ws.length) (h0 : 0 < spd ws S R c) => cand_bd W G t12 R hc h0
        have e25 := (e23.trans e4).trans e5
        have hls : least ((((betw ws S).take (i + 1)).filter fun c => decide (0 < spd ws S R c)).map (cand ws S R)) = less1 (least ((((betw ws S).take i).filter fun c => decide (0 < spd ws S R c)).map (cand ws S R))) (cand ws S R c) := by
          rw [hft, List.map_append]; unfold least; rw [List.foldl_append]; rfl
        refine ⟨_, rfl, rfl, _, rfl, ?_⟩
        cases hle : least ((((betw ws S).take i).filter fun c => decide (0 < spd ws S R c)).map (cand ws S R)) with
        | none =>
          rw [hle] at hbest hls
          have hb0 : bv = .non := hbest
          subst hb0
          refine iteT (iteT ?_)
          refine ⟨_, rfl, z, _, _, _, _, _, _, _, rfl, old H5 z e25 ?_⟩
          rw [hls]; exact hz
        | some x =>
          rw [hle] at hbest hls
          have hb0 : FrV K H2 x bv := hbest
          obtain ⟨ba, rfl, _⟩ := id hb0
          refine iteF ?_
          have hxb : bd x := by
            obtain ⟨m1, _⟩ := least_some _ none x hle
            rcases m1 with m1 | m1
            · cases m1
            · obtain ⟨c', hc', rfl⟩ := List.mem_map.mp m1
              obtain ⟨m2, m3⟩ := List.mem_filter.mp hc'
              exact bnd c' (List.mem_range.mp (List.mem_filter.mp (List.mem_of_mem_take m2)).1) (of_decide_eq_true m3)
          refine ⟨_, rfl, _, rfl, z, _, cand ws S R c, x, rfl, hz, hb0.x e25, bnd c hcl hs0, hxb, fun H6 e6 => ⟨_, rfl, ?_⟩⟩
          refine ite2 (fun q3 => ?_) (fun q3 => ?_)
          · have hlt := of_decide_eq_true q3
            refine ⟨_, rfl, z, _, _, _, _, _, _, _, rfl, old H6 z (e25.trans e6) ?_⟩
            rw [hls]; show (match (if cand ws S R c < x then some (cand ws S R c) else some x) with | some x => FrV K H6 x z | none => z = .non)
            rw [if_pos hlt]; exact hz.x e6
          · have hlt : ¬ cand ws S R c < x := fun z => q3 (decide_eq_true z)
            refine ⟨.ref ba, _, _, _, _, _, _, _, rfl, old H6 _ (e25.trans e6) ?_⟩
            rw [hls]; show (match (if cand ws S R c < x then some (cand ws S R c) else some x) with | some x => FrV K H6 x (.ref ba) | none => (.ref ba : V) = .non)
            rw [if_neg hlt]; exact hb0.x (e25.trans e6)
      · have hs0 : ¬ 0 < spd ws S R c := fun z => q (decide_eq_true (by omega))
        rw [if_neg hs0, List.append_nil] at hft
        refine ⟨bv, _, _, _, _, _, _, _, rfl, old H3 bv e23 ?_⟩
        rw [hft]
        cases hle : least ((((betw ws S).take i).filter fun c => decide (0 < spd ws S R c)).map (cand ws S R)) with
        | none => rw [hle] at hbest; exact hbest
        | some x => rw [hle] at hbest; exact FrV.x hbest e23
    · rintro σ' H2 ⟨bv, y3, y4, y5, y6, y7, y8, y9, rfl, e2, hl2, hr2, hbest⟩
      rw [hbl, List.take_length] at hbest
      have hcw : (betw ws S).filter (fun c => decide (0 < spd ws S R c)) = canW ws S R := by
        unfold betw canW
        rw [List.filter_filter]
        exact List.filter_congr fun x _ => Bool.and_comm _ _
      rw [hcw] at hbest
      exact ⟨_, rfl, k bv H2 hbest e2⟩
end
end Mw

set_option Elab.async false
set_option linter.all false
set_option maxRecDepth 100000
set_option maxHeartbeats 4000000
namespace Mw
open PySem PySem.Spec PyProof.Rows L2 GE
/-! ### the attributes are written -/
section
variable {K : PySem.W.Frag} {T : List Addr} {H : Hp} {aC : Addr} {f : FAd} {n : Nat} {ws : Wl} {S : Gs}
theorem FieldAt.setD (F : FieldAt K aC H f n ws S) {vd : List V} {dep : Nat → Int} (hl : vd.length = n) (hx : ∀ x, x < n → ∃ v, vd[x]? = some v ∧ FrV K H (dep x) v) :
    FieldAt K aC (upd H f.ld (.lst vd)) f n ws { S with dep := dep } ∧ Ext T (Fm f) H (upd H f.ld (.lst vd)) := by
  obtain ⟨dx, tv, h1, h2⟩ := F.ob
  obtain ⟨v1, a1, a2⟩ := F.tk
  obtain ⟨v2, b1, b2⟩ := F.wd
  obtain ⟨v3, c1, c2, c3⟩ := F.hm
  obtain ⟨v4, d1, d2, d3⟩ := F.dp
  obtain ⟨wa, us, e1, e2, e3⟩ := F.wy
  have t : Tp K H (upd H f.ld (.lst vd)) := Tp.mut d1 (fun xs z => nomatch z) (fun o xs z => nomatch z)
  have n1 : f.p ≠ f.ld := fun z => by rw [z, d1] at h1; cases h1
  have n2 : f.lw ≠ f.ld := fun z => by rw [z, d1] at b1; cases b1
  exact ⟨⟨⟨dx, tv, by rw [upd_ne n1]; exact h1, t.fr h2⟩, ⟨v1, by rw [upd_ne F.ne.2.1]; exact a1, t.tk a2⟩, ⟨v2, by rw [upd_ne n2]; exact b1, t.wd b2⟩, ⟨v3, by rw [upd_ne F.ne.2.2]; exact c1, c2, fun x hx => by obtain ⟨s, q1, q2⟩ := c3 x hx; exact ⟨s, q1, t.tup _ _ q2⟩⟩,
    ⟨vd, upd_same, hl, fun x h => by obtain ⟨v, q1, q2⟩ := hx x h; exact ⟨v, q1, t.fr q2⟩⟩, ⟨wa, us, e1, t.tup _ _ e2, t.rpl e3⟩, F.ne⟩, (Ext.refl T _ H).mut (.inr (.inr (.inr (.inr (.inr rfl))))) d1 ltbl⟩
theorem FieldAt.setW (F : FieldAt K aC H f n ws S) {kvs : List (List Key × V)} {wid : List (List Nat × Int)} (hx : WdL K H wid kvs) :
    FieldAt K aC (upd H f.lw (.dT kvs)) f n ws { S with wid := wid } ∧ Ext T (Fm f) H (upd H f.lw (.dT kvs)) := by
  obtain ⟨dx, tv, h1, h2⟩ := F.ob
  obtain ⟨v1, a1, a2⟩ := F.tk
  obtain ⟨v2, b1, b2⟩ := F.wd
  obtain ⟨v3, c1, c2, c3⟩ := F.hm
  obtain ⟨v4, d1, d2, d3⟩ := F.dp
  obtain ⟨wa, us, e1, e2, e3⟩ := F.wy
  have t : Tp K H (upd H f.lw (.dT kvs)) := Tp.mut b1 (fun xs z => nomatch z) (fun o xs z => nomatch z)
  have n1 : f.p ≠ f.lw := fun z => by rw [z, b1] at h1; cases h1
  have n2 : f.lt ≠ f.lw := fun z => by rw [z, b1] at a1; cases a1
  have n3 : f.lh ≠ f.lw := fun z => by rw [z, b1] at c1; cases c1
  have n4 : f.ld ≠ f.lw := fun z => by rw [z, b1] at d1; cases d1
  exact ⟨⟨⟨dx, tv, by rw [upd_ne n1]; exact h1, t.fr h2⟩, ⟨v1, by rw [upd_ne n2]; exact a1, t.tk a2⟩, ⟨kvs, upd_same, t.wd hx⟩, ⟨v3, by rw [upd_ne n3]; exact c1, c2, fun x hx => by obtain ⟨s, q1, q2⟩ := c3 x hx; exact ⟨s, q1, t.tup _ _ q2⟩⟩,
    ⟨v4, by rw [upd_ne n4]; exact d1, d2, fun x h => by obtain ⟨v, q1, q2⟩ := d3 x h; exact ⟨v, q1, t.fr q2⟩⟩, ⟨wa, us, e1, t.tup _ _ e2, t.rpl e3⟩, F.ne⟩, (Ext.refl T _ H).mut (.inr (.inr (.inr (.inl rfl)))) b1 fun ps z => nomatch z⟩
theorem FieldAt.setT (F : FieldAt K aC H f n ws S) {dx : Addr} {tv uv : V} {u : Int} (hp : H f.p = some (.ins aC dx (ff tv f))) (hu : FrV K H u uv) :
    FieldAt K aC (upd H f.p (.ins aC dx (ff uv f))) f n ws { S with time := u } ∧ Ext T (Fm f) H (upd H f.p (.ins aC dx (ff uv f))) := by
  obtain ⟨v1, a1, a2⟩ := F.tk
  obtain ⟨v2, b1, b2⟩ := F.wd
  obtain ⟨v3, c1, c2, c3⟩ := F.hm
  obtain ⟨v4, d1, d2, d3⟩ := F.dp
  obtain ⟨wa, us, e1, e2, e3⟩ := F.wy
  have t : Tp K H (upd H f.p (.ins aC dx (ff uv f))) := Tp.mut hp (fun xs z => nomatch z) (fun o xs z => nomatch z)
  have n1 : f.lt ≠ f.p := fun z => by rw [z, hp] at a1; cases a1
  have n2 : f.lw ≠ f.p := fun z => by rw [z, hp] at b1; cases b1
  have n3 : f.lh ≠ f.p := fun z => by rw [z, hp] at c1; cases c1
  have n4 : f.ld ≠ f.p := fun z => by rw [z, hp] at d1; cases d1
  exact ⟨⟨⟨dx, uv, upd_same, t.fr hu⟩, ⟨v1, by rw [upd_ne n1]; exact a1, t.tk a2⟩, ⟨v2, by rw [upd_ne n2]; exact b1, t.wd b2⟩, ⟨v3, by rw [upd_ne n3]; exact c1, c2, fun x hx => by obtain ⟨s, q1, q2⟩ := c3 x hx; exact ⟨s, q1, t.tup _ _ q2⟩⟩,
    ⟨v4, by rw [upd_ne n4]; exact d1, d2, fun x h => by obtain ⟨v, q1, q2⟩ := d3 x h; exact ⟨v, q1, t.fr q2⟩⟩, ⟨wa, us, e1, t.tup _ _ e2, t.rpl e3⟩, F.ne⟩, (Ext.refl T _ H).mut (.inr (.inl rfl)) hp fun ps z => nomatch z⟩
end
/-! ### the widths by their keys -/
theorem keyOf_inj {k l : List Nat} (h : keyOf k = keyOf l) : k = l := by
  unfold keyOf at h
  exact List.map_inj_right (f := fun x : Nat => (Sum.inl (x : Int) : Key)) (fun a b e => by have := Sum.inl.inj e; omega) |>.mp h
theorem keyOf_kV (k : List Nat) : (keyOf k).map kV = natsV k := by unfold keyOf natsV; rw [List.map_map]; rfl
def widOf : List (List Nat × Int) → List Nat → Int
  | [], _ => 0
  | (j, w) :: r, k => if j = k then w else widOf r k
theorem WdL.get {K : PySem.W.Frag} {H : Hp} {k : List Nat} {z : V} (hz : FrV K H 0 z) : ∀ {l : List (List Nat × Int)} {kvs : List (List Key × V)}, WdL K H l kvs → FrV K H (widOf l k) ((valV kvs (keyOf k)).getD z)
  | [], kvs, h => by rw [show kvs = [] from h]; exact hz
  | (j, w) :: r, kvs, ⟨v, us, e, h1, h2⟩ => by
    subst e
    by_cases q : j = k
    · subst q
      rw [valV_pos rfl]
      show FrV K H (if j = j then w else widOf r j) v
      rw [if_pos rfl]; exact h1
    · rw [valV_neg (fun z => q (keyOf_inj z))]
      show FrV K H (if j = k then w else widOf r k) _
      rw [if_neg q]; exact WdL.get hz h2
theorem WdL.val {K : PySem.W.Frag} {H : Hp} {k : List Nat} : ∀ {l : List (List Nat × Int)} {kvs : List (List Key × V)}, WdL K H l kvs → (valV kvs (keyOf k) = none ↔ k ∉ l.map (·.1))
  | [], kvs, h => by rw [show kvs = [] from h]; simp [valV]
  | (j, w) :: r, kvs, ⟨v, us, e, h1, h2⟩ => by
    subst e
    by_cases q : j = k
    · subst q
      rw [valV_pos rfl]; simp
    · rw [valV_neg (fun z => q (keyOf_inj z)), WdL.val h2, List.map_cons, List.mem_cons]
      exact ⟨fun a b => by rcases b with b | b; exact q b.symm; exact a b, fun a b => a (.inr b)⟩
theorem WdL.map {K : PySem.W.Frag} {H : Hp} {k : List Nat} {s : Int} {z : V} (hz : FrV K H (s) z) : ∀ {l : List (List Nat × Int)} {kvs : List (List Key × V)}, WdL K H l kvs → (l.map (·.1)).Nodup → k ∈ l.map (·.1) → ∀ d, s = widOf l k + d →
    WdL K H (addW l k d) (kvs.map fun kv => if kv.1 = keyOf k then (kv.1, z) else kv)
  | [], kvs, h, _, hk, d, _ => by cases hk
  | (j, w) :: r, kvs, ⟨v, us, e, h1, h2⟩, nd, hk, d, hs => by
    subst e
    obtain ⟨n1, n2⟩ := List.nodup_cons.mp nd
    by_cases q : j = k
    · subst q
      have e1 : addW ((j, w) :: r) j d = (j, w + d) :: r := if_pos rfl
      have e2 : widOf ((j, w) :: r) j = w := if_pos rfl
      rw [e1, List.map_cons, if_pos rfl]
      refine ⟨z, _, rfl, by rw [← e2, ← hs]; exact hz, ?_⟩
      have same : ∀ {l : List (List Nat × Int)} {us : List (List Key × V)}, WdL K H l us → j ∉ l.map (·.1) → (us.map fun kv => if kv.1 = keyOf j then (kv.1, z) else kv) = us := by
        intro l
        induction l with
        | nil => intro us h _; rw [show us = [] from h]; rfl
        | cons a l ih =>
          intro us ⟨v, us', e, _, h2⟩ hn
          subst e
          rw [List.map_cons, if_neg (fun z => hn (by rw [List.map_cons, keyOf_inj z]; exact List.mem_cons_self)), ih h2 (fun z => hn (by rw [List.map_cons]; exact List.mem_cons_of_mem _ z))]
      rw [same h2 n1]; exact h2
    · have e1 : addW ((j, w) :: r) k d = (j, w) :: addW r k d := if_neg q
      have e2 : widOf ((j, w) :: r) k = widOf r k := if_neg q
      rw [e1, List.map_cons, if_neg (fun z => q (keyOf_inj z))]
      refine ⟨v, _, rfl, h1, WdL.map hz h2 n2 ?_ d (by rw [hs, e2])⟩
      rcases List.mem_cons.mp hk with y | y
      · exact absurd y.symm q
      · exact y
theorem WdL.app {K : PySem.W.Frag} {H : Hp} {k : List Nat} {d : Int} {z : V} (hz : FrV K H d z) : ∀ {l : List (List Nat × Int)} {kvs : List (List Key × V)}, WdL K H l kvs → k ∉ l.map (·.1) → WdL K H (addW l k d) (kvs ++ [(keyOf k, z)])
  | [], kvs, h, _ => by rw [show kvs = [] from h]; exact ⟨z, [], rfl, hz, rfl⟩
  | (j, w) :: r, kvs, ⟨v, us, e, h1, h2⟩, hn => by
    subst e
    have q : ¬ j = k := fun z => hn (by rw [List.map_cons, z]; exact List.mem_cons_self)
    have e1 : addW ((j, w) :: r) k d = (j, w) :: addW r k d := if_neg q
    rw [e1]
    exact ⟨v, _, rfl, h1, WdL.app hz h2 fun z => hn (by rw [List.map_cons]; exact List.mem_cons_of_mem _ z)⟩
theorem widOf_no {k : List Nat} : ∀ {l : List (List Nat × Int)}, k ∉ l.map (·.1) → widOf l k = 0
  | [], _ => rfl
  | (j, w) :: r, h => by
    have q : ¬ j = k := fun z => h (by rw [List.map_cons, z]; exact List.mem_cons_self)
    show (if j = k then w else widOf r k) = 0
    rw [if_neg q]; exact widOf_no fun z => h (by rw [List.map_cons]; exact List.mem_cons_of_mem _ z)
theorem WdL.put {K : PySem.W.Frag} {H : Hp} {k : List Nat} {d : Int} {z : V} {l : List (List Nat × Int)} {kvs : List (List Key × V)} (h : WdL K H l kvs) (nd : (l.map (·.1)).Nodup) (hz : FrV K H (widOf l k + d) z) : WdL K H (addW l k d) (putK kvs (keyOf k) z) := by
  unfold putK
  rw [valV_any]
  by_cases q : k ∈ l.map (·.1)
  · have : (valV kvs (keyOf k)).isSome = true := by
      cases e : valV kvs (keyOf k) with
      | none => exact absurd q (h.val.mp e)
      | some _ => rfl
    rw [this, if_pos rfl]
    exact WdL.map hz h nd q d rfl
  · rw [h.val.mpr q]
    rw [widOf_no q, Int.zero_add] at hz
    exact WdL.app hz h q
theorem WdL.len {K : PySem.W.Frag} {H : Hp} : ∀ {l : List (List Nat × Int)} {kvs : List (List Key × V)}, WdL K H l kvs → kvs.length = l.length
  | [], kvs, h => by rw [show kvs = [] from h] <;> rfl
  | (j, w) :: r, kvs, ⟨v, us, e, h1, h2⟩ => by subst e; rw [List.length_cons, List.length_cons, WdL.len h2]
theorem addW_keys {k : List Nat} {d : Int} : ∀ l : List (List Nat × Int), (addW l k d).map (·.1) = if k ∈ l.map (·.1) then l.map (·.1) else l.map (·.1) ++ [k]
  | [] => by simp [addW]
  | (j, w) :: r => by
    by_cases q : j = k
    · subst q
      have e1 : addW ((j, w) :: r) j d = (j, w + d) :: r := if_pos rfl
      rw [e1]; simp
    · have e1 : addW ((j, w) :: r) k d = (j, w) :: addW r k d := if_neg q
      have q' : ¬ k = j := fun z => q z.symm
      rw [e1, List.map_cons, addW_keys r]
      simp only [List.map_cons, List.mem_cons, q', false_or]
      split <;> rfl
theorem nd1 {α : Type} (a : α) : [a].Nodup := List.nodup_cons.mpr ⟨(fun h => nomatch h), List.nodup_nil⟩
theorem addW_nd {k : List Nat} {d : Int} {l : List (List Nat × Int)} (h : (l.map (·.1)).Nodup) : ((addW l k d).map (·.1)).Nodup := by
  rw [addW_keys]
  split
  · exact h
  · rename_i q
    rw [List.nodup_append]
    exact ⟨h, nd1 _, fun a ha b hb z => q (by rw [← List.mem_singleton.mp hb, ← z]; exact ha)⟩
theorem addW_len {k : List Nat} {d : Int} {l : List (List Nat × Int)} : (addW l k d).length ≤ l.length + 1 := by
  have := congrArg List.length (addW_keys (k := k) (d := d) l)
  rw [List.length_map] at this
  rw [this]
  split <;> simp
theorem widOf_bd {k : List Nat} {b : Int} (hb : 0 ≤ b) : ∀ {l : List (List Nat × Int)}, (∀ kw ∈ l, 0 < kw.2 ∧ kw.2 ≤ b) → 0 ≤ widOf l k ∧ widOf l k ≤ b
  | [], _ => ⟨Int.le_refl _, hb⟩
  | (j, w) :: r, h => by
    show 0 ≤ (if j = k then w else widOf r k) ∧ (if j = k then w else widOf r k) ≤ b
    split
    · have := h (j, w) List.mem_cons_self
      have h1 : 0 < w := this.1
      have h2 : w ≤ b := this.2
      omega
    · exact widOf_bd hb fun kw hk => h kw (List.mem_cons_of_mem _ hk)
def part (n : Nat) (S : Gs) (R : List Nat) (s : Int) (i : Nat) : Gs :=
  { S with dep := fun p => S.dep p + if S.h p ∈ R.take i then s else 0, wid := (R.take i).foldl (fun w r => addW w (cls S.h n r) s) S.wid }
theorem part_0 (n : Nat) (S : Gs) (R : List Nat) (s : Int) : part n S R s 0 = S := by
  unfold part; simp
theorem part_bd {n t : Nat} {ws : Wl} {S : Gs} {s : Int} (G : GB n ws t 300 S) (h0 : 0 < s) (h1 : s ≤ 491520000) (R : List Nat) (i p : Nat) : 0 ≤ (part n S R s i).dep p ∧ (part n S R s i).dep p ≤ (312 : Nat) * 40960000 := by
  have := G.d0 p
  show 0 ≤ S.dep p + (if S.h p ∈ R.take i then s else 0) ∧ S.dep p + (if S.h p ∈ R.take i then s else 0) ≤ _
  split <;> constructor <;> omega
theorem nodup_not {R : List Nat} {i r : Nat} (h : R.Nodup) (hr : R[i]? = some r) : r ∉ R.take i := by
  intro q
  obtain ⟨m, hm1, hm2⟩ := List.mem_iff_getElem.mp q
  rw [List.length_take] at hm1
  rw [List.getElem_take] at hm2
  have hil := (List.getElem?_eq_some_iff.mp hr).1
  have e := (List.getElem?_eq_some_iff.mp hr).2
  have := List.pairwise_iff_getElem.mp h m i (by omega) hil (by omega)
  exact this (hm2.trans e.symm)
def spGrow (K : PySem.W.Frag) (T : List Addr) (aC : Addr) : Sp := fun vs H Q _ => ∃ (f : FAd) (n t : Nat) (ws : Wl) (S : Gs) (R : List Nat) (rv sv : V) (s : Int), vs = [.ref f.p, rv, sv] ∧ FieldAt K aC H f n ws S ∧ GB n ws t 300 S ∧ n ≤ 12 ∧ t < 12 ∧ RisV K H n S.h R rv ∧ R.Nodup ∧ R.length ≤ 12 ∧ FrV K H s sv ∧ 0 < s ∧ s ≤ 491520000 ∧
  (S.wid.map (·.1)).Nodup ∧ S.wid.length ≤ 300 ∧ ∀ H', FieldAt K aC H' f n ws (grow n S R s) → Ext T (Fm f) H H' → Q .non H'
section
variable {P : Program} {w : World} {K : PySem.W.Frag} {mg : Str → Option Value} {base : Heap} {T : List Addr} {aC : Addr}
theorem ok_Field_grow {f : Addr} {fd : FuncData} (F : Fun K "grow" "Field.grow" sField_grow f fd) {fplus : Addr} {fdplus : FuncData} (Fplus : Fun K "plus" "plus" splus fplus fdplus) (Gplus : FnOk P w K mg base CX0 2 fplus fdplus ["first", "second"] (spPlus K T)) (bplus : Binds K fdplus ["first", "second"] []) (gplus : mg "plus" = some (.ref fplus)) {az : Addr} (g_ZERO : mg "ZERO" = some (.ref az)) (hz0 : SqT K (fun _ => none) az [.int (frX 0), .int (frY 0)]) (fx : FTx K aC) : FnOk P w K mg base CX0 3 f fd ["self", "rising", "span"] (spGrow K T aC) := by
  refine F.ok scField_grow (fun vs H Q E h => ?_) (fun cdv A outer s H vs Q E hr h => ?_)
  · obtain ⟨f, n, t, ws, S, R, rv, sv, s, rfl, F, G, n12, t12, RV, rnd, rl, hs, hs0, hs1, nd, wl, k⟩ := h
    rfl
  · obtain ⟨f, n, t, ws, S, R, rv, sv, s, rfl, F, G, n12, t12, RV, rnd, rl, hs, hs0, hs1, nd, wl, k⟩ := h
    refine ⟨_, (pss_cons (ps_for PassesOwn.never rfl (pi_tup (pv 1)) (pg_name (i := 3) scField_grow.nd rfl (Or.inl rfl)) (pss_cons (ps_asg (pe_call Gplus hr (by rfl) gplus Fplus.kp bplus .nil pass0 (pa_cons (pe_dget2 (by have := hr.un; show (A.deeper _).units + 1 < _; omega) (pe_fld (pv 0) rfl) (pv 3) (pe_glob (v := .ref az) (by rfl) g_ZERO rfl) ⟨rfl, rfl, rfl, rfl⟩) (pa_cons (pv 2) pa_nil))) (pg_sub (pe_fld (pv 0) rfl) (pv 3) (set_dict (by have := hr.un; show (A.deeper _).units + 1 < _; omega))))
      (pss_one (ps_for PassesOwn.never rfl (pi_tup (pv 3)) (pg_name (i := 4) scField_grow.nd rfl (Or.inl rfl)) (pss_one (ps_asg (pe_call Gplus hr (by rfl) gplus Fplus.kp bplus .nil pass0 (pa_cons (pe_ix ix_list (pe_fld (pv 0) rfl) (pv 4) (fun _ _ => rfl)) (pa_cons (pv 2) pa_nil))) (pg_sub (pe_fld (pv 0) rfl) (pv 4) set_list)))))))
      (pss_one (ps_fld (pv 0) (pe_call Gplus hr (by rfl) gplus Fplus.kp bplus .nil pass0 (pa_cons (pe_fld (pv 0) rfl) (pa_cons (pv 2) pa_nil))) rfl))), ?_⟩
    obtain ⟨ra, rvs, rfl, hra, hrl, hrx⟩ := RV.at_
    obtain ⟨es, HM⟩ := G.hom
    have clsL := fun p => cls_len S.h n p
    refine ⟨_, rfl, ra, rfl, ⟨_, SqT.of hra⟩, for_tup (K := K) (a := ra) (xs := rvs) (fun i σ' H' => ∃ y3 y4, σ' = [some (.ref f.p), some (.ref ra), some sv, y3, y4] ∧ FieldAt K aC H' f n ws (part n S R s i) ∧ Ext T (Fm f) H H' ∧ Tp K H H' ∧ ((part n S R s i).wid.map (·.1)).Nodup ∧ (part n S R s i).wid.length ≤ 300 + i ∧
        ∀ kw ∈ (part n S R s i).wid, 0 < kw.2 ∧ kw.2 ≤ (300 + 12 * i : Nat) * 40960000) ⟨none, none, rfl, by rw [part_0]; exact F, Ext.refl _ _ _, Tp.refl, by rw [part_0]; exact nd, by rw [part_0]; exact wl, by rw [part_0]; exact G.w0⟩ (fun i σ' H' _ ⟨_, _, _, _, _, tp, _⟩ => tp.sq _ _ (SqT.of hra)) ?_ ?_⟩
    · rintro i x σ' H1 hx ⟨y3, y4, rfl, F1, e1, tp1, nd1', wl1, wb1⟩
      have hi : i < R.length := by have := (List.getElem?_eq_some_iff.mp hx).1; omega
      obtain ⟨r, hr⟩ : ∃ r, R[i]? = some r := ⟨_, List.getElem?_eq_getElem hi⟩
      obtain ⟨gt, g1, g2⟩ := hrx i r hr
      rw [hx] at g1
      obtain rfl := Option.some.inj g1
      obtain ⟨rn, rr⟩ := RV.ok r (List.mem_of_getElem? hr)
      have g3 := tp1.tup _ _ g2
      obtain ⟨dx, tv, hob, _⟩ := F1.ob
      obtain ⟨kvs, hW, hwl⟩ := F1.wd
      have hkl := hwl.len
      have hzz : FrV K H1 0 (.ref az) := zero_fr hz0
      have hget := hwl.get (k := cls S.h n r) hzz
      have wbd := widOf_bd (k := cls S.h n r) (show (0 : Int) ≤ (300 + 12 * i : Nat) * 40960000 by omega) wb1
      have hkey : ∀ H' : Hp, H' gt = some (.tup (natsV (cls S.h n r))) → H' gt = some (.tup ((keyOf (cls S.h n r)).map kV)) := fun H' q => by rw [keyOf_kV]; exact q
      refine ⟨_, rfl, f.p, aC, dx, _, _, rfl, hob, fx.cl, fx.n_widths, ff_widths _ _, f.lw, rfl, .inr ⟨kvs, .inl hW⟩, _, rfl, _, DGet.t hW (hkey _ g3), _, rfl, _, sv, _, s, rfl, hget, tp1.fr hs, ⟨by omega, by omega⟩, ⟨by omega, by omega⟩, fun z H2 hz e2 => ?_⟩
      have F2 := F1.x e2
      have tp2 : Tp K H1 H2 := Tp.of e2
      have hob2 := e2.kp _ _ (fun z => z) hob (fun ps z => nomatch z)
      have hW2 := e2.kp _ _ (fun z => z) hW (fun ps z => nomatch z)
      have hwl2 := tp2.wd hwl
      have g4 := tp2.tup _ _ g3
      obtain ⟨F3, e3⟩ := F2.setW (T := T) (hwl2.put nd1' hz)
      refine ⟨_, rfl, f.p, aC, dx, _, _, rfl, hob2, fx.cl, fx.n_widths, ff_widths _ _, _, rfl, f.lw, _, rfl, .inr ⟨kvs, _, gt, hW2, rfl, hkey _ g4, small1000 (by omega), rfl⟩, ?_⟩
      have tp3 : Tp K H2 (upd H2 f.lw (.dT (putK kvs (keyOf (cls S.h n r)) z))) := Tp.mut hW2 (fun xs z => nomatch z) (fun o xs z => nomatch z)
      generalize (upd H2 f.lw (.dT (putK kvs (keyOf (cls S.h n r)) z))) = H3 at F3 e3 tp3 ⊢
      have e13 := (e1.trans e2.weak).trans e3
      have tp13 := (tp1.trans tp2).trans tp3
      have g5 := tp13.tup _ _ g2
      refine ⟨_, rfl, gt, rfl, ⟨_, SqT.of g5⟩, for_tup (K := K) (a := gt) (xs := natsV (cls S.h n r)) (fun j σ' H' => ∃ y4, σ' = [some (.ref f.p), some (.ref ra), some sv, some (.ref gt), y4] ∧ FieldAt K aC H' f n ws { part n S R s i with wid := addW (part n S R s i).wid (cls S.h n r) s, dep := fun p => (part n S R s i).dep p + if p ∈ (cls S.h n r).take j then s else 0 } ∧ Ext T (Fm f) H H' ∧ Tp K H H')
        ⟨y4, rfl, ?_, e13, tp13⟩ (fun j σ' H' _ ⟨_, _, _, _, tp⟩ => tp.sq _ _ (SqT.of g2)) ?_ ?_⟩
      · have : (fun p => (part n S R s i).dep p + if p ∈ (cls S.h n r).take 0 then s else 0) = (part n S R s i).dep := by funext p; simp
        rw [this]; exact F3
      · rintro j x σ' H4 hx4 ⟨y4, rfl, F4, e4, tp4⟩
        obtain ⟨pl, hj, rfl⟩ : ∃ pl, (cls S.h n r)[j]? = some pl ∧ x = V.int ((pl : Nat) : Int) := by
          unfold natsV at hx4
          rw [List.getElem?_map] at hx4
          cases e : (cls S.h n r)[j]? with
          | none => rw [e] at hx4; cases hx4
          | some c => rw [e] at hx4; exact ⟨c, rfl, (Option.some.inj hx4).symm⟩
        have hpn : pl < n := (mem_cls.mp (List.mem_of_getElem? hj)).1
        have hnot : pl ∉ (cls S.h n r).take j := by
          intro q
          obtain ⟨m, hm1, hm2⟩ := List.mem_iff_getElem.mp q
          rw [List.length_take] at hm1
          rw [List.getElem_take] at hm2
          have hjl := (List.getElem?_eq_some_iff.mp hj).1
          have pw := List.pairwise_iff_getElem.mp (cls_pw S.h n r) m j (by omega) hjl (by omega)
          have := (List.getElem?_eq_some_iff.mp hj).2
          omega
        obtain ⟨dx4, tv4, hob4, _⟩ := F4.ob
        obtain ⟨vd, hld, hdl, hdx⟩ := F4.dp
        obtain ⟨vv, q1, q2⟩ := hdx pl hpn
        have db := part_bd G hs0 hs1 R i pl
        have q2 : FrV K H4 ((part n S R s i).dep pl + if pl ∈ (cls S.h n r).take j then s else 0) vv := q2
        rw [if_neg hnot, Int.add_zero] at q2
        refine ⟨_, rfl, f.p, aC, dx4, _, _, rfl, hob4, fx.cl, fx.n_depths, ff_depths _ _, _, rfl, f.ld, _, _, _, rfl, rfl, SqL.of hld, at_of (j := pl) rfl q1, _, rfl, vv, sv, _, s, rfl, q2, tp4.fr hs, ⟨by omega, by omega⟩, ⟨by omega, by omega⟩, fun z5 H5 hz5 e5 => ?_⟩
        have F5 := F4.x e5
        have tp5 : Tp K H4 H5 := Tp.of e5
        have hob5 := e5.kp _ _ (fun z => z) hob4 (fun ps z => nomatch z)
        have hld5 := e5.lst (fun z => z) hld
        refine ⟨_, rfl, f.p, aC, dx4, _, _, rfl, hob5, fx.cl, fx.n_depths, ff_depths _ _, _, rfl, f.ld, vd, _, pl, rfl, rfl, hld5, Evl.ixN_nat (by omega), ?_⟩
        obtain ⟨F6, e6⟩ := F5.setD (T := T) (vd := vd.set pl z5) (dep := fun p => (part n S R s i).dep p + if p ∈ (cls S.h n r).take (j + 1) then s else 0) (by rw [List.length_set]; exact hdl) (fun x hx => by
          rw [take_succ' hj]
          by_cases q : x = pl
          · subst q
            exact ⟨z5, by rw [List.getElem?_set_self (by omega)], by rw [if_pos (by simp)]; exact hz5⟩
          · obtain ⟨u, r1, r2⟩ := hdx x hx
            refine ⟨u, by rw [List.getElem?_set_ne (fun z => q z.symm)]; exact r1, ?_⟩
            have : (x ∈ (cls S.h n r).take j ++ [pl]) = (x ∈ (cls S.h n r).take j) := by
              rw [List.mem_append, List.mem_singleton]; exact propext ⟨fun z => z.elim id fun z => absurd z q, .inl⟩
            simp only [this]
            exact tp5.fr r2)
        exact ⟨_, rfl, F6, (e4.trans e5.weak).trans e6, (tp4.trans tp5).trans (Tp.mut hld5 (fun xs z => nomatch z) (fun o xs z => nomatch z))⟩
      · rintro σ' H4 ⟨y4, rfl, F4, e4, tp4⟩
        have hnl : (natsV (cls S.h n r)).length = (cls S.h n r).length := by unfold natsV; rw [List.length_map]
        rw [hnl, List.take_length] at F4
        have hw : (part n S R s (i + 1)).wid = addW (part n S R s i).wid (cls S.h n r) s := by
          unfold part; dsimp only; rw [take_succ' hr, List.foldl_append]; rfl
        refine ⟨_, _, rfl, ?_, e4, tp4, by rw [hw]; exact addW_nd nd1', ?_, ?_⟩
        · obtain ⟨vd, d1, d2, d3⟩ := F4.dp
          refine ⟨F4.ob, F4.tk, by rw [hw]; exact F4.wd, F4.hm, ⟨vd, d1, d2, fun x hx => ?_⟩, F4.wy, F4.ne⟩
          obtain ⟨u, r1, r2⟩ := d3 x hx
          refine ⟨u, r1, ?_⟩
          have e : (part n S R s (i + 1)).dep x = (part n S R s i).dep x + if x ∈ cls S.h n r then s else 0 := by
            unfold part; dsimp only
            have hni : r ∉ R.take i := nodup_not rnd hr
            rw [take_succ' hr]
            by_cases q : S.h x = r
            · rw [if_pos (by rw [q]; simp), if_neg (by rw [q]; exact hni), if_pos (mem_cls.mpr ⟨hx, by rw [rr]; exact q⟩)]; omega
            · have q2 : x ∉ cls S.h n r := fun z => q (by rw [(mem_cls.mp z).2, rr])
              rw [if_neg q2]
              by_cases q3 : S.h x ∈ R.take i
              · rw [if_pos (List.mem_append_left _ q3), if_pos q3]; omega
              · rw [if_neg (fun z => by rcases List.mem_append.mp z with z | z; exact q3 z; exact q (List.mem_singleton.mp z)), if_neg q3]; omega
          rw [e]; exact r2
        · rw [hw]; have := addW_len (k := cls S.h n r) (d := s) (l := (part n S R s i).wid); omega
        · intro kw hk
          rw [hw] at hk
          rcases mem_addW hk with ⟨_, q | ⟨v, q, q2⟩⟩ | q
          · rw [q]; constructor <;> omega
          · have := wb1 _ q
            have h1 : 0 < v := this.1
            have h2 : v ≤ (300 + 12 * i : Nat) * 40960000 := this.2
            rw [q2]; constructor <;> omega
          · have := wb1 _ q; constructor <;> omega
    · rintro σ' H1 ⟨y3, y4, rfl, F1, e1, tp1, nd1', wl1, wb1⟩
      rw [hrl] at F1
      have hg : part n S R s R.length = { grow n S R s with time := S.time } := by unfold part grow; rw [List.take_length]
      rw [hg] at F1
      obtain ⟨dx, tv, hob, htv⟩ := F1.ob
      have htv : FrV K H1 S.time tv := htv
      have t0 := G.t0
      refine ⟨_, rfl, f.p, aC, dx, _, _, rfl, hob, fx.cl, fx.n_time, ff_time _ _, _, rfl, tv, sv, S.time, s, rfl, htv, tp1.fr hs, ⟨by omega, by omega⟩, ⟨by omega, by omega⟩, fun z H2 hz e2 => ?_⟩
      have hob2 := e2.kp _ _ (fun z => z) hob (fun ps z => nomatch z)
      obtain ⟨F3, e3⟩ := (F1.x e2).setT (T := T) hob2 hz
      refine ⟨_, rfl, f.p, aC, dx, _, rfl, hob2, fx.cl, fx.n_time, by show 6 < 1000; decide, ?_⟩
      exact k _ F3 ((e1.trans e2.weak).trans e3)
end
end Mw

set_option Elab.async false
set_option linter.all false
set_option maxRecDepth 100000
set_option maxHeartbeats 4000000
namespace Mw
open PySem PySem.Spec PyProof.Rows L2 GE
theorem reps_succ (h : Nat → Nat) (i : Nat) : reps h (i + 1) = reps h i ++ if h i = i then [i] else [] := by
  have := filter_range_succ (fun x => h x == x) i
  unfold reps; rw [this]; by_cases e : h i = i <;> simp [e]
theorem flat_rep {α : Type} (n : Nat) (a : α) : (List.replicate n [a]).flatten = List.replicate n a := by
  induction n with
  | zero => rfl
  | succ n ih => rw [List.replicate_succ, List.flatten_cons, ih]; rfl
def spNow (K : PySem.W.Frag) (T : List Addr) (aC : Addr) : Sp := fun vs H Q _ => ∃ (f : FAd) (n t : Nat) (ws : Wl) (S : Gs), vs = [.ref f.p] ∧ FieldAt K aC H f n ws S ∧ GB n ws t 300 S ∧ n ≤ 12 ∧ Wd T H ∧ ∀ v H', RisV K H' n S.h (reps S.h n) v → Ext T noM H H' → Q v H'
def spInit (K : PySem.W.Frag) (T : List Addr) (aC : Addr) : Sp := fun vs H Q _ => ∃ (p dx : Addr) (net : V) (n : Nat) (ws : Wl), vs = [.ref p, net] ∧ H p = some (.ins aC dx []) ∧ Rp H (netD n ws) net ∧ n ≤ 12 ∧
  ∀ f H', f.p = p → FieldAt K aC H' f n ws start → (∀ b, Fm f b → b = p ∨ H b = none) → Ext T (fun b => b = p) H H' → Q .non H'
section
variable {P : Program} {w : World} {K : PySem.W.Frag} {mg : Str → Option Value} {base : Heap} {T : List Addr} {aC : Addr}
theorem ok_Field_groups_now {f : Addr} {fd : FuncData} {c PT : Addr} (F : GE.FunC K "groups_now" "Field.groups_now" sField_groups_now f fd c) (TB : GxR.TabB base mg c PT) (hPT : PT ∈ T) (m_tuple : mg "tuple" = none) (m_enumerate : mg "enumerate" = none) (fx : FTx K aC) : FnOk P w K mg base CX0 3 f fd ["self"] (spNow K T aC) := by
  refine F.ok scField_groups_now (fun vs H Q E h => ?_) (fun A outer s H vs Q E hr h => ?_)
  · obtain ⟨f, n, t, ws, S, rfl, F, G, n12, wd, k⟩ := h
    rfl
  · obtain ⟨f, n, t, ws, S, rfl, F, G, n12, wd, k⟩ := h
    refine ⟨_, (pss_one (ps_ret (GE.pe_tupG (own := [("place", 1), ("home", 2)]) (k := 0) hr (by rfl) m_tuple scField_groups_now.nd TB rfl (pi_enum (by rfl) m_enumerate (pa_cons (pe_fld (pv 0) rfl) pa_nil)) (GE.gblk_by (N := ["self", "place", "home"]) (sc := defScope sField_groups_now) (by decide +kernel)) (fun _ _ _ _ _ _ _ _ => (GE.pg_tupK (K := K) 2 (pgs_cons (pg_name (i := 1) scField_groups_now.nd rfl (Or.inl rfl)) (pgs_cons (pg_name (i := 2) scField_groups_now.nd rfl (Or.inl rfl)) pgs_nil)))) (fun _ _ _ _ _ _ _ _ hr' => (pts_one (pt_cmpR op_eq (pe_ix (GE.ix_tupK (K := K)) (pv 2) pe_int (fun _ _ => rfl)) (pv 1) (nomark _)))) (fun _ _ _ _ _ _ _ _ hr' => (pv 2))))), ?_⟩
    obtain ⟨dx, tv, hob, _⟩ := F.ob
    obtain ⟨vh, hlh, hlenh, hhm⟩ := F.hm
    obtain ⟨es, HM⟩ := G.hom
    refine ⟨_, rfl, f.p, aC, dx, _, _, rfl, hob, fx.cl, fx.n_homes, ff_homes _ _, f.lh, vh, rfl, SqL.of hlh, wd PT hPT, fun H2 tb => ?_⟩
    have e2 : Ext T noM H H2 := Ext.tab (wd PT hPT) tb
    refine turn_of n (fun i ys H' => Ext T noM H H' ∧ ys.length = (reps S.h i).length ∧ ∀ (m r : Nat), (reps S.h i)[m]? = some r → ∃ t : Addr, ys[m]? = some (V.ref t) ∧ H t = some (.tup (natsV (cls S.h n r)))) ⟨e2, rfl, fun m r h => by simp [reps] at h⟩ ?_ ?_ ?_
    · rintro ys H' ⟨e, hl, hx⟩
      refine ⟨⟨vh, SqL.of (e.lst (fun z => z) hlh), by omega⟩, fun q hq => ?_⟩
      exact k _ _ ⟨⟨q, ys, rfl, upd_same, hl, fun m r h => by obtain ⟨t, q1, q2⟩ := hx m r h; exact ⟨t, q1, (e.trans (Ext.new hq)).tup (fun z => z) q2⟩⟩, fun r hr => mem_reps'.mp hr⟩ (e.trans (Ext.new hq))
    · rintro i ys H' hi ⟨e, _⟩
      exact ⟨vh, vh[i], SqL.of (e.lst (fun z => z) hlh), List.getElem?_eq_getElem (by omega)⟩
    · rintro i x ys H' H1 hi ⟨e, hl, hx⟩ ⟨Tq, x', rfl, hT, rfl, hy⟩ N hN
      obtain ⟨ti, g1, g2⟩ := hhm i hi
      have hx' := hy vh (SqL.of (e.lst (fun z => z) hlh))
      rw [g1] at hx'
      obtain rfl := Option.some.inj hx'
      have e1 : Ext T noM H (upd H' Tq (.tup [.int (i : Nat), .ref ti])) := e.trans (Ext.new hT)
      obtain ⟨rest, hr⟩ := cls_head HM hi
      have g3 := e1.tup (fun z => z) g2
      have g4 : (upd H' Tq (.tup [.int (i : Nat), .ref ti])) ti = some (.tup (V.int (S.h i : Nat) :: natsV rest)) := by rw [g3, hr]; rfl
      have hsn := reps_succ S.h i
      have hle := reps_len S.h i
      refine ⟨Tq, _, rfl, SqT.of upd_same, rfl, _, _, rfl, _, _, rfl, rfl, rfl, ?_⟩
      refine ⟨_, rfl, ti, _, _, _, rfl, rfl, SqT.of g4, at_of (j := 0) rfl rfl, _, rfl, rfl, _, rfl, ?_⟩
      refine ite2 (fun q => ?_) (fun q => ?_)
      · have q' := vint_inj.mp (of_decide_eq_true q)
        rw [if_pos q'] at hsn
        refine ⟨_, rfl, small1000 (by omega), hN _ _ ⟨e1, by rw [hsn, List.length_append, List.length_append, hl]; rfl, fun m r h => ?_⟩⟩
        rw [hsn] at h
        by_cases hm : m < (reps S.h i).length
        · rw [List.getElem?_append_left hm] at h
          obtain ⟨t, q1, q2⟩ := hx m r h
          exact ⟨t, by rw [List.getElem?_append_left (by omega)]; exact q1, q2⟩
        · rw [List.getElem?_append_right (by omega)] at h
          have hm2 : m = (reps S.h i).length := by
            have := (List.getElem?_eq_some_iff.mp h).1
            simp at this; omega
          subst hm2
          have : i = r := by simpa using h
          subst this
          exact ⟨ti, by rw [List.getElem?_append_right (by omega), hl]; simp, g2⟩
      · have q' : ¬ S.h i = i := fun z => q (decide_eq_true (vint_inj.mpr z))
        rw [if_neg q', List.append_nil] at hsn
        exact hN _ _ ⟨e1, by rw [hsn]; exact hl, by rw [hsn]; exact hx⟩
theorem ok_Field___init__ {f : Addr} {fd : FuncData} (F : Fun K "__init__" "Field.__init__" sField___init__ f fd) (m_range : mg "range" = none) {az : Addr} (g_ZERO : mg "ZERO" = some (.ref az)) (hz0 : SqT K (fun _ => none) az [.int (frX 0), .int (frY 0)]) (fx : FTx K aC) : FnOk P w K mg base CX0 1 f fd ["self", "net"] (spInit K T aC) := by
  refine F.ok scField___init__ (fun vs H Q E h => ?_) (fun cdv A outer s H vs Q E hr h => ?_)
  · obtain ⟨p, dx, net, n, ws, rfl, hp, hnet, n12, k⟩ := h
    rfl
  · obtain ⟨p, dx, net, n, ws, rfl, hp, hnet, n12, k⟩ := h
    refine ⟨_, (pss_cons (ps_asg (pv 1) (pg_tup (by rfl) (pgs_cons (pg_name (i := 2) scField___init__.nd rfl (Or.inl rfl)) (pgs_cons (pg_name (i := 3) scField___init__.nd rfl (Or.inl rfl)) pgs_nil))))
      (pss_cons (ps_fld (pv 0) (pe_glob (v := .ref az) (by rfl) g_ZERO rfl) rfl)
      (pss_cons (ps_fld (pv 0) (pe_lst pa_nil) rfl)
      (pss_cons (ps_fld (pv 0) pe_dnewT rfl)
      (pss_cons (ps_fld (pv 0) (pv 3) rfl)
      (pss_cons (ps_fld (pv 0) (pe_lc (own := [("place", 4)]) (g := (gName 4)) (tt := tYes) rfl scField___init__.nd (pi_range1 (by rfl) m_range (pa_cons (pv 2) pa_nil)) (blkOk_by (own := [("place", 4)]) (N := ["self", "net", "places", "ways", "place"]) (sc := defScope sField___init__) (by decide +kernel)) (fun _ _ _ _ _ => (pg_name (i := 4) scField___init__.nd rfl (Or.inl rfl))) (fun _ _ _ _ _ => pts_nil) (fun _ _ _ _ _ => (pe_tup (pa_cons (pv 4) pa_nil)))) rfl)
      (pss_one (ps_fld (pv 0) (pe_op op_rep (pe_lst (pa_cons (pe_glob (v := .ref az) (by rfl) g_ZERO rfl) pa_nil)) (pv 2)) rfl)))))))), ?_⟩
    obtain ⟨na, nb, us, rfl, ha, hb, hus⟩ := net_at hnet
    have np : na ≠ p := fun z => by rw [z, hp] at ha; cases ha
    have nbp : nb ≠ p := fun z => by rw [z, hp] at hb; cases hb
    have X : ∀ (H' : Hp) (o o' : HO), H' p = some o → (∀ ps, o ≠ .tbl ps) → Ext T (fun b => b = p) H' (upd H' p o') := fun H' o o' h nt => (Ext.refl T _ H').mut (.inr rfl) h nt
    refine ⟨_, rfl, na, _, rfl, SqT.of ha, rfl, _, _, rfl, _, _, rfl, rfl, ?_⟩
    refine ⟨_, rfl, p, aC, dx, _, rfl, hp, fx.cl, fx.n_time, by show 0 < 1000; decide, ?_⟩
    have x1 := X H _ (.ins aC dx (putF "time" (.ref az) [])) hp fun ps z => nomatch z
    have h1 : (upd H p (.ins aC dx (putF "time" (.ref az) []))) p = some (.ins aC dx (putF "time" (.ref az) [])) := upd_same
    generalize (upd H p (.ins aC dx (putF "time" (.ref az) []))) = H1 at x1 h1 ⊢
    refine ⟨by show 0 ≤ sizeLine; decide, fun lt hlt => ?_⟩
    have x2 : Ext T (fun b => b = p) H1 (upd H1 lt (.lst [])) := Ext.new hlt
    have hlt2 : (upd H1 lt (.lst [])) lt = some (.lst []) := upd_same
    have ltp : lt ≠ p := fun z => by rw [z, h1] at hlt; cases hlt
    have h2 : (upd H1 lt (.lst [])) p = some (.ins aC dx (putF "time" (.ref az) [])) := by rw [upd_ne (fun z => ltp z.symm)]; exact h1
    generalize (upd H1 lt (.lst [])) = H2 at x2 hlt2 h2 ⊢
    refine ⟨_, rfl, p, aC, dx, _, rfl, h2, fx.cl, fx.n_taken, by show 1 < 1000; decide, ?_⟩
    have x3 := X H2 _ (.ins aC dx (putF "taken" (.ref lt) (putF "time" (.ref az) []))) h2 fun ps z => nomatch z
    have h3 : (upd H2 p (.ins aC dx (putF "taken" (.ref lt) (putF "time" (.ref az) [])))) p = some (.ins aC dx (putF "taken" (.ref lt) (putF "time" (.ref az) []))) := upd_same
    generalize (upd H2 p (.ins aC dx (putF "taken" (.ref lt) (putF "time" (.ref az) [])))) = H3 at x3 h3 ⊢
    refine fun lw hlw => ?_
    have x4 : Ext T (fun b => b = p) H3 (upd H3 lw (.dT [])) := Ext.new hlw
    have hlw4 : (upd H3 lw (.dT [])) lw = some (.dT []) := upd_same
    have lwp : lw ≠ p := fun z => by rw [z, h3] at hlw; cases hlw
    have h4 : (upd H3 lw (.dT [])) p = some (.ins aC dx (putF "taken" (.ref lt) (putF "time" (.ref az) []))) := by rw [upd_ne (fun z => lwp z.symm)]; exact h3
    generalize (upd H3 lw (.dT [])) = H4 at x4 hlw4 h4 ⊢
    refine ⟨_, rfl, p, aC, dx, _, rfl, h4, fx.cl, fx.n_widths, by show 2 < 1000; decide, ?_⟩
    have x5 := X H4 _ (.ins aC dx (putF "widths" (.ref lw) (putF "taken" (.ref lt) (putF "time" (.ref az) [])))) h4 fun ps z => nomatch z
    have h5 : (upd H4 p (.ins aC dx (putF "widths" (.ref lw) (putF "taken" (.ref lt) (putF "time" (.ref az) []))))) p = some (.ins aC dx (putF "widths" (.ref lw) (putF "taken" (.ref lt) (putF "time" (.ref az) [])))) := upd_same
    generalize (upd H4 p (.ins aC dx (putF "widths" (.ref lw) (putF "taken" (.ref lt) (putF "time" (.ref az) []))))) = H5 at x5 h5 ⊢
    refine ⟨_, rfl, _, rfl, p, aC, dx, _, rfl, h5, fx.cl, fx.n_ways, by show 3 < 1000; decide, ?_⟩
    have x6 := X H5 _ (.ins aC dx (putF "_ways" (.ref nb) (putF "widths" (.ref lw) (putF "taken" (.ref lt) (putF "time" (.ref az) []))))) h5 fun ps z => nomatch z
    have h6 : (upd H5 p (.ins aC dx (putF "_ways" (.ref nb) (putF "widths" (.ref lw) (putF "taken" (.ref lt) (putF "time" (.ref az) [])))))) p = some (.ins aC dx (putF "_ways" (.ref nb) (putF "widths" (.ref lw) (putF "taken" (.ref lt) (putF "time" (.ref az) []))))) := upd_same
    generalize (upd H5 p (.ins aC dx (putF "_ways" (.ref nb) (putF "widths" (.ref lw) (putF "taken" (.ref lt) (putF "time" (.ref az) [])))))) = H6 at x6 h6 ⊢
    refine ⟨_, rfl, n, rfl, by omega, by omega, fun lh hlh => ?_⟩
    have lhp : lh ≠ p := fun z => by rw [z, h6] at hlh; cases hlh
    refine lc_range (lo := 0) (n := ((n : Int) - 0).toNat) (fun j H' => ∃ vs, Ext T noM H6 H' ∧ H' lh = some (.lst vs) ∧ vs.length = j ∧ ∀ x, x < j → ∃ t : Addr, vs[x]? = some (V.ref t) ∧ H' t = some (.tup [V.int (x : Nat)])) ⟨[], Ext.new hlh, upd_same, rfl, fun x hx => absurd hx (Nat.not_lt_zero _)⟩ ?_ ?_
    · rintro j H' hj ⟨vs, e, hv, hl, hx⟩
      refine ⟨rfl, tYesI ?_⟩
      refine ⟨_, rfl, by show 1 ≤ sizeLine; decide, fun t ht => ?_⟩
      have e2 := e.trans (Ext.new (o := .tup [.int (0 + (j : Int))]) ht)
      have hv2 : (upd H' t (.tup [.int (0 + (j : Int))])) lh = some (.lst vs) := by rw [upd_ne (ne_of_none hv ht)]; exact hv
      refine ⟨vs, hv2, small1000 (by omega), vs ++ [.ref t], e2.mut (.inl hlh) hv2 ltbl, upd_same, by rw [List.length_append, List.length_singleton, hl], fun x hx' => ?_⟩
      by_cases q : x < j
      · obtain ⟨u, q1, q2⟩ := hx x q
        refine ⟨u, by rw [List.getElem?_append_left (by omega)]; exact q1, ?_⟩
        rw [upd_ne (fun z => by rw [z, hv] at q2; cases q2), upd_ne (ne_of_none q2 ht)]; exact q2
      · have : x = j := by omega
        subst this
        refine ⟨t, by rw [List.getElem?_append_right (by omega), hl]; simp, ?_⟩
        rw [upd_ne (fun z => by rw [z, hv] at ht; cases ht), upd_same, Int.zero_add]
    rintro H7 ⟨vh, x7, hlh7, hvl, hvx⟩
    have en : ((n : Int) - 0).toNat = n := by omega
    rw [en] at hvl hvx
    have h7 := x7.kp _ _ (fun z => z) h6 (fun ps z => nomatch z)
    refine ⟨_, rfl, p, aC, dx, _, rfl, h7, fx.cl, fx.n_homes, by show 4 < 1000; decide, ?_⟩
    have x8 := X H7 _ (.ins aC dx (putF "_homes" (.ref lh) (putF "_ways" (.ref nb) (putF "widths" (.ref lw) (putF "taken" (.ref lt) (putF "time" (.ref az) [])))))) h7 fun ps z => nomatch z
    have h8 : (upd H7 p (.ins aC dx (putF "_homes" (.ref lh) (putF "_ways" (.ref nb) (putF "widths" (.ref lw) (putF "taken" (.ref lt) (putF "time" (.ref az) []))))))) p = some (.ins aC dx (putF "_homes" (.ref lh) (putF "_ways" (.ref nb) (putF "widths" (.ref lw) (putF "taken" (.ref lt) (putF "time" (.ref az) [])))))) := upd_same
    generalize (upd H7 p (.ins aC dx (putF "_homes" (.ref lh) (putF "_ways" (.ref nb) (putF "widths" (.ref lw) (putF "taken" (.ref lt) (putF "time" (.ref az) []))))))) = H8 at x8 h8 ⊢
    refine ⟨by show 1 ≤ sizeLine; decide, fun l0 hl0 => ?_⟩
    have x9 : Ext T (fun b => b = p) H8 (upd H8 l0 (.lst [.ref az])) := Ext.new hl0
    have hl09 : (upd H8 l0 (.lst [.ref az])) l0 = some (.lst [.ref az]) := upd_same
    have l0p : l0 ≠ p := fun z => by rw [z, h8] at hl0; cases hl0
    have h9 := upd_ne (H := H8) (o := .lst [.ref az]) (fun z : p = l0 => l0p z.symm)
    rw [h8] at h9
    generalize (upd H8 l0 (.lst [.ref az])) = H9 at x9 hl09 h9 ⊢
    have hrep : (List.replicate ((n : Int)).toNat [V.ref az]).flatten = List.replicate n (V.ref az) := by
      rw [show ((n : Int)).toNat = n by omega]
      exact flat_rep n _
    refine ⟨_, rfl, l0, n, _, rfl, rfl, hl09, by omega, by omega, ?_, fun ld hld => ?_⟩
    · show 1 * ((n : Int)).toNat ≤ sizeLine
      exact Nat.le_of_lt (small1000 (by omega))
    rw [hrep]
    have x10 : Ext T (fun b => b = p) H9 (upd H9 ld (.lst (List.replicate n (.ref az)))) := Ext.new hld
    have hld10 : (upd H9 ld (.lst (List.replicate n (.ref az)))) ld = some (.lst (List.replicate n (.ref az))) := upd_same
    have ldp : ld ≠ p := fun z => by rw [z, h9] at hld; cases hld
    have h10 := upd_ne (H := H9) (o := .lst (List.replicate n (.ref az))) (fun z : p = ld => ldp z.symm)
    rw [h9] at h10
    have nth : lt ≠ lh := fun z => by
      have := (x3.trans (x4.trans (x5.trans x6))).lst (fun z => ltp z) hlt2
      rw [z, hlh] at this; cases this
    have ntd : lt ≠ ld := fun z => by
      have := ((x3.trans (x4.trans (x5.trans x6))).trans (x7.weak.trans (x8.trans x9))).lst (fun z => ltp z) hlt2
      rw [z, hld] at this; cases this
    have nhd : lh ≠ ld := fun z => by
      have := (x8.trans x9).lst (fun z => lhp z) hlh7
      rw [z, hld] at this; cases this
    generalize (upd H9 ld (.lst (List.replicate n (.ref az)))) = H10 at x10 hld10 h10 ⊢
    refine ⟨_, rfl, p, aC, dx, _, rfl, h10, fx.cl, fx.n_depths, by show 5 < 1000; decide, ?_⟩
    have x11 := X H10 _ (.ins aC dx (ff (.ref az) ⟨p, lt, lw, lh, ld, .ref nb⟩)) h10 fun ps z => nomatch z
    have x711 := x8.trans (x9.trans (x10.trans x11))
    have x611 := x7.weak.trans x711
    have x211 := x3.trans (x4.trans (x5.trans (x6.trans x611)))
    have x411 := x5.trans (x6.trans x611)
    have xall := x1.trans (x2.trans x211)
    have tall : ∀ b xs, H b = some (.tup xs) → (upd H10 p (.ins aC dx (ff (.ref az) ⟨p, lt, lw, lh, ld, .ref nb⟩))) b = some (.tup xs) := fun b xs q => xall.tup (fun z => by rw [z, hp] at q; cases q) q
    have hz : ∀ H', FrV K H' 0 (.ref az) := fun H' => zero_fr hz0
    refine k ⟨p, lt, lw, lh, ld, .ref nb⟩ _ rfl ⟨⟨dx, .ref az, upd_same, hz _⟩, ⟨[], x211.lst (fun z => ltp z) hlt2, rfl⟩, ⟨[], x411.kp _ _ (fun z => lwp z) hlw4 (fun ps z => nomatch z), rfl⟩, ⟨vh, x711.lst (fun z => lhp z) hlh7, hvl, fun x hx => ?_⟩, ⟨_, x11.lst (fun z => ldp z) hld10, by rw [List.length_replicate], fun x hx => ⟨_, by rw [List.getElem?_replicate, if_pos hx], hz _⟩⟩, ⟨nb, us, rfl, tall _ _ hb, ?_⟩, nth, ntd, nhd⟩ (fun b hb => by
      rcases hb with z | z | z | z | z
      · exact .inl z
      · exact .inr (by rw [z]; exact x1.fr lt hlt)
      · exact .inr (by rw [z]; exact (x1.trans (x2.trans x3)).fr lw hlw)
      · exact .inr (by rw [z]; exact (x1.trans (x2.trans (x3.trans (x4.trans (x5.trans x6))))).fr lh hlh)
      · exact .inr (by rw [z]; exact (x1.trans (x2.trans (x3.trans (x4.trans (x5.trans (x6.trans (x7.weak.trans (x8.trans x9)))))))).fr ld hld)) xall
    · obtain ⟨u, q1, q2⟩ := hvx x hx
      refine ⟨u, q1, ?_⟩
      have hc : cls start.h n x = [x] := sorted_ext (cls_pw _ _ _) (List.pairwise_singleton _ _) fun y => by
        rw [mem_cls, List.mem_singleton]
        exact ⟨fun z => z.2, fun z => by rw [z]; exact ⟨hx, rfl⟩⟩
      rw [hc]
      exact x711.tup (fun z => by rw [z, h7] at q2; cases q2) q2
    · exact RpL.ext xall (fun b vs z q => by rw [show b = p from z, hp] at q; cases q) hus
end
end Mw

set_option Elab.async false
set_option linter.all false
set_option maxRecDepth 100000
set_option maxHeartbeats 4000000
namespace Mw
open PySem PySem.Spec PyProof.Rows L2 GE
abbrev Pr := Nat × Nat
def pairD (p : Pr) : D := .t [.i p.1, .i p.2]
def pairsD (ps : List Pr) : D := .t (ps.map pairD)
structure PsOk (n : Nat) (ps : List Pr) : Prop where
  ok : ∀ p ∈ ps, p.1 < p.2 ∧ p.2 < n
  ln : ps.length ≤ 6
theorem pair_at {H : Hp} {p : Pr} {v : V} (h : Rp H (pairD p) v) : ∃ a, v = .ref a ∧ H a = some (.tup [.int p.1, .int p.2]) := by
  obtain ⟨a, vs, rfl, h1, h2⟩ := h.t
  exact ⟨a, rfl, by rw [h1, RpL.ints (ns := [p.1, p.2]) h2]; rfl⟩
theorem rp_pair {H : Hp} {a : Addr} {x y : Nat} (h : H a = some (.tup [.int x, .int y])) : Rp H (pairD (x, y)) (.ref a) := rp_t h (rpl_cons (rp_i _) (rpl_cons (rp_i _) rpl_nil))
theorem inV_nats (a : Nat) : ∀ f : List Nat, inV (.int (a : Int)) (natsV f) = decide (a ∈ f)
  | [] => rfl
  | x :: f => by
    have ih := inV_nats a f
    unfold inV natsV at ih ⊢
    rw [List.map_cons, List.any_cons, ih]
    by_cases e : x = a
    · subst e; simp [eqV]
    · have e2 : ¬ a = x := fun z => e z.symm
      have e3 : ¬ (x : Int) = (a : Int) := fun z => e (by omega)
      simp [eqV, e2, e3]
theorem flat_nats (f : List Nat) : (natsV f).all flatV = true := by
  rw [List.all_eq_true]; intro x hx; obtain ⟨y, _, rfl⟩ := List.mem_map.mp hx; rfl

def spParts (T : List Addr) : Sp := fun vs H Q _ => ∃ (gt : Addr) (g : List Nat) (pz : V) (ps : List Pr), vs = [.ref gt, pz] ∧ H gt = some (.tup (natsV g)) ∧ Rp H (pairsD ps) pz ∧ ps.length ≤ 6 ∧ Wd T H ∧
  ∀ H', Ext T noM H H' → Q (.bl (ps.any fun q => decide (q.1 ∈ g) != decide (q.2 ∈ g))) H'
def spOpen (K : PySem.W.Frag) (T : List Addr) (aC : Addr) : Sp := fun vs H Q _ => ∃ (f : FAd) (n t : Nat) (ws : Wl) (S : Gs) (pz : V) (ps : List Pr), vs = [.ref f.p, pz] ∧ FieldAt K aC H f n ws S ∧ GB n ws t 300 S ∧ n ≤ 12 ∧ Rp H (pairsD ps) pz ∧ PsOk n ps ∧ Wd T H ∧
  ∀ v H', RisV K H' n S.h (opens n ps S.h) v → Ext T noM H H' → Q v H'
theorem any_congr {α : Type} {f g : α → Bool} : ∀ {l : List α}, (∀ x ∈ l, f x = g x) → l.any f = l.any g
  | [], _ => rfl
  | x :: l, h => by rw [List.any_cons, List.any_cons, h x List.mem_cons_self, any_congr fun y hy => h y (List.mem_cons_of_mem _ hy)]
theorem bne_dec (a b : Prop) [Decidable a] [Decidable b] : (!decide (V.bl (decide a) = V.bl (decide b))) = (decide a != decide b) := by
  by_cases ha : a <;> by_cases hb : b <;> simp [ha, hb]
section
variable {P : Program} {w : World} {K : PySem.W.Frag} {mg : Str → Option Value} {base : Heap} {T : List Addr} {aC : Addr}
end
end Mw

set_option Elab.async false
set_option linter.all false
set_option maxRecDepth 100000
set_option maxHeartbeats 4000000
namespace Mw
open PySem PySem.Spec PyProof.Rows L2 GE
theorem ch_range (m : Nat) : Ch m (List.range m) := ⟨fun c hc => List.mem_range.mp hc, List.pairwise_lt_range⟩
theorem wf_ok {n : Nat} {ws : Wl} (W : Wf n ws) : WsOk n ws := ⟨W.n1, W.n12, fun c hc => (wy_ok W hc).2⟩
theorem wedges_edg (ws : Wl) : edg ws (List.range ws.length) = wedges ws := rfl
theorem joined_iff {n : Nat} {ws : Wl} (W : Wf n ws) {a b : Nat} (ha : a < n) (hb : b < n) : hom ws (List.range ws.length) a = hom ws (List.range ws.length) b ↔ Cn (wedges ws) a b :=
  (hom_ok W (List.range ws.length) fun c hc => List.mem_range.mp hc).iff a b ha hb
def spEvery (T : List Addr) : Sp := fun vs H Q _ => ∃ (net : V) (n : Nat) (ws : Wl), vs = [net] ∧ Rp H (netD n ws) net ∧ ws.length ≤ 24 ∧ ∀ u H', Rp H' (chD (List.range ws.length)) u → Ext T noM H H' → Q u H'
def spCheck (T : List Addr) : Sp := fun vs H Q _ => ∃ (net pz : V) (n : Nat) (ws : Wl) (ps : List Pr), vs = [net, pz] ∧ Wf n ws ∧ Rp H (netD n ws) net ∧ Rp H (pairsD ps) pz ∧ PsOk n ps ∧ (∀ q ∈ ps, Cn (wedges ws) q.1 q.2) ∧ ∀ H', Ext T noM H H' → Q .non H'
section
variable {P : Program} {w : World} {K : PySem.W.Frag} {mg : Str → Option Value} {base : Heap} {T : List Addr} {aC : Addr}
end
end Mw

set_option Elab.async false
set_option linter.all false
set_option maxRecDepth 100000
set_option maxHeartbeats 4000000
namespace Mw
open PySem PySem.Spec PyProof.Rows L2 GE
/-! ### the whole growth -/
abbrev Rw := Int × (Nat → Nat)
def gro (n : Nat) (ws : Wl) (ps : List Pr) : Nat → Gs → List Rw → Gs × List Rw
  | 0, S, L => (S, L)
  | k + 1, S, L => if opens n ps S.h = [] then (S, L) else gro n ws ps k (turn n ws ps S) (L ++ [((turn n ws ps S).time, (turn n ws ps S).h)])
def allGro (n : Nat) (ws : Wl) (ps : List Pr) : Gs × List Rw := gro n ws ps n start [(0, start.h)]
theorem gro_stop {n : Nat} {ws : Wl} {ps : List Pr} {S : Gs} {L : List Rw} (h : opens n ps S.h = []) : ∀ k, gro n ws ps k S L = (S, L)
  | 0 => rfl
  | k + 1 => if_pos h
structure GF (n : Nat) (ws : Wl) (t : Nat) (S : Gs) : Prop where
  g : GM n ws t S
  f : first ws S = none
  c : (reps S.h n).length + t ≤ n
  nd : (S.wid.map (·.1)).Nodup
  wl : S.wid.length ≤ 12 * t
  tk : S.taken.length + (reps S.h n).length ≤ n
theorem takeAll_cnt {n t : Nat} {ws : Wl} (W : WsOk n ws) : ∀ (k : Nat) {S : Gs}, GM n ws t S → (takeAll ws k S).taken.length + (reps (takeAll ws k S).h n).length ≤ S.taken.length + (reps S.h n).length
  | 0, S, _ => Nat.le_refl _
  | k + 1, S, G => by
    cases e : first ws S with
    | none => rw [takeAll_stop e]; exact Nat.le_refl _
    | some c =>
      rw [takeAll_go e]
      obtain ⟨hc, hx, _⟩ := first_some e
      obtain ⟨G2, hlt⟩ := G.take W hc hx
      have ih := takeAll_cnt W k G2
      have : (take1 ws S c).taken.length = S.taken.length + 1 := by show (S.taken ++ [_]).length = _; rw [List.length_append]; rfl
      omega
theorem fold_nd {n : Nat} {h : Nat → Nat} {s : Int} : ∀ (R : List Nat) {l : List (List Nat × Int)}, (l.map (·.1)).Nodup → ((R.foldl (fun w r => addW w (cls h n r) s) l).map (·.1)).Nodup ∧ (R.foldl (fun w r => addW w (cls h n r) s) l).length ≤ l.length + R.length
  | [], l, hl => ⟨hl, Nat.le_refl _⟩
  | r :: R, l, hl => by
    obtain ⟨h1, h2⟩ := fold_nd (n := n) (h := h) (s := s) R (addW_nd (k := cls h n r) (d := s) hl)
    refine ⟨h1, ?_⟩
    have := addW_len (k := cls h n r) (d := s) (l := l)
    show (R.foldl (fun w r => addW w (cls h n r) s) (addW l (cls h n r) s)).length ≤ l.length + (r :: R).length
    rw [List.length_cons]; omega
theorem opens_len (n : Nat) (ps : List Pr) (h : Nat → Nat) : (opens n ps h).length ≤ n := by
  have h1 := List.length_filter_le (fun r => ps.any (parted h r)) (reps h n)
  have h2 := reps_len h n
  unfold opens; omega
theorem GF.start {n : Nat} {ws : Wl} (W : WsOk n ws) : GF n ws 0 Mw.start := by
  have hr := reps_len Mw.start.h n
  refine ⟨GM.start W, ?_, by omega, List.nodup_nil, Nat.zero_le _, by show 0 + _ ≤ n; omega⟩
  refine List.find?_eq_none.mpr fun c hc => ?_
  have h3 := (W.ok c (List.mem_range.mp hc)).2.2.1
  have : lack ws Mw.start c = ((way ws c).2.2 : Int) * 4096 - (0 + 0) := rfl
  unfold full
  rw [decide_eq_false (show ¬ lack ws Mw.start c ≤ 0 by omega), Bool.and_false]; exact Bool.false_ne_true
theorem GF.turn {n t : Nat} {ws : Wl} {ps : List Pr} {S : Gs} (W : WsOk n ws) (J : ∀ q ∈ ps, Cn (wedges ws) q.1 q.2) (G : GF n ws t S) (hR : opens n ps S.h ≠ []) : t < 12 ∧ GF n ws (t + 1) (turn n ws ps S) := by
  obtain ⟨t12, g1, g2, g3⟩ := G.g.turn W J G.c G.f hR
  obtain ⟨_, _, _, _, gg, _⟩ := G.g.grow W J t12 G.f hR
  have e := takeAll_time ws n (grow n S (opens n ps S.h) (span ws S (opens n ps S.h)))
  have f := fold_nd (n := n) (h := S.h) (s := span ws S (opens n ps S.h)) (opens n ps S.h) G.nd
  have ol := opens_len n ps S.h
  have n12 := W.n12
  have wl := G.wl
  have tk := G.tk
  have tc := takeAll_cnt W n gg
  refine ⟨t12, g1, g2, g3, ?_, ?_, Nat.le_trans tc tk⟩
  · unfold Mw.turn; rw [e.2.2]; exact f.1
  · unfold Mw.turn; rw [e.2.2]
    have := f.2
    show (List.foldl (fun w r => addW w (cls S.h n r) (span ws S (opens n ps S.h))) S.wid (opens n ps S.h)).length ≤ _
    omega
def SeenL (K : PySem.W.Frag) (H : Hp) (n : Nat) (ps : List Pr) : List Rw → List V → Prop
  | [], vs => vs = []
  | (t, h) :: r, vs => ∃ a tv gv rv us, vs = .ref a :: us ∧ H a = some (.tup [tv, gv, rv]) ∧ FrV K H t tv ∧ RisV K H n h (reps h n) gv ∧ RisV K H n h (opens n ps h) rv ∧ SeenL K H n ps r us
theorem RisV.t {K : PySem.W.Frag} {H H' : Hp} {n : Nat} {h : Nat → Nat} {R : List Nat} {v : V} (r : RisV K H n h R v) (t : Tp K H H') : RisV K H' n h R v := by
  obtain ⟨⟨a, vs, e1, e2, e3, e4⟩, ok⟩ := r
  exact ⟨⟨a, vs, e1, t.tup _ _ e2, e3, fun i q hq => by obtain ⟨u, q1, q2⟩ := e4 i q hq; exact ⟨u, q1, t.tup _ _ q2⟩⟩, ok⟩
theorem SeenL.t {K : PySem.W.Frag} {H H' : Hp} {n : Nat} {ps : List Pr} (t : Tp K H H') : ∀ {l : List Rw} {vs : List V}, SeenL K H n ps l vs → SeenL K H' n ps l vs
  | [], vs, h => h
  | (s, g) :: r, vs, ⟨a, tv, gv, rv, us, e, h1, h2, h3, h4, h5⟩ => ⟨a, tv, gv, rv, us, e, t.tup _ _ h1, t.fr h2, h3.t t, h4.t t, SeenL.t t h5⟩
theorem SeenL.snoc {K : PySem.W.Frag} {H : Hp} {n : Nat} {ps : List Pr} {t : Int} {h : Nat → Nat} {a : Addr} {tv gv rv : V} (ha : H a = some (.tup [tv, gv, rv])) (h1 : FrV K H t tv) (h2 : RisV K H n h (reps h n) gv) (h3 : RisV K H n h (opens n ps h) rv) :
    ∀ {l : List Rw} {vs : List V}, SeenL K H n ps l vs → SeenL K H n ps (l ++ [(t, h)]) (vs ++ [.ref a])
  | [], vs, q => by rw [show vs = [] from q]; exact ⟨a, tv, gv, rv, [], rfl, ha, h1, h2, h3, rfl⟩
  | (s, g) :: r, vs, ⟨b, sv, g2, r2, us, e, k1, k2, k3, k4, k5⟩ => by rw [e]; exact ⟨b, sv, g2, r2, us ++ [.ref a], rfl, k1, k2, k3, k4, SeenL.snoc ha h1 h2 h3 k5⟩
theorem SeenL.len {K : PySem.W.Frag} {H : Hp} {n : Nat} {ps : List Pr} : ∀ {l : List Rw} {vs : List V}, SeenL K H n ps l vs → vs.length = l.length
  | [], vs, h => by rw [show vs = [] from h] <;> rfl
  | (s, g) :: r, vs, ⟨a, tv, gv, rv, us, e, h1, h2, h3, h4, h5⟩ => by rw [e, List.length_cons, List.length_cons, SeenL.len h5]
theorem FrV.t {K : PySem.W.Frag} {H H' : Hp} {u : Int} {v : V} (h : FrV K H u v) (t : Tp K H H') : FrV K H' u v := t.fr h
theorem _root_.GE.Ext.drop {T : List Addr} {M : Addr → Prop} {H1 H2 H' : Hp} (a : Ext T noM H1 H2) (b : Ext T M H2 H') (hM : ∀ b, M b → H1 b = none) : Ext T noM H1 H' :=
  ⟨fun x o _ e n => b.kp x o (fun m => by rw [hM x m] at e; cases e) (a.kp x o (fun z => z) e n) n, fun P hP h => b.tb P hP (a.tb P hP h), fun x h => a.fr x (b.fr x h)⟩
def spGrown (K : PySem.W.Frag) (T : List Addr) (aC : Addr) : Sp := fun vs H Q _ => ∃ (net pz : V) (n : Nat) (ws : Wl) (ps : List Pr), vs = [net, pz] ∧ Wf n ws ∧ Rp H (netD n ws) net ∧ Rp H (pairsD ps) pz ∧ PsOk n ps ∧ (∀ q ∈ ps, Cn (wedges ws) q.1 q.2) ∧ Wd T H ∧
  ∀ r f ls vs H', H' r = some (.tup [.ref f.p, .ref ls]) → FieldAt K aC H' f n ws (allGro n ws ps).1 → H' ls = some (.lst vs) → SeenL K H' n ps (allGro n ws ps).2 vs → Ext T noM H H' → Q (.ref r) H'
section
variable {P : Program} {w : World} {K : PySem.W.Frag} {mg : Str → Option Value} {base : Heap} {T : List Addr} {aC : Addr}
end
end Mw

set_option Elab.async false
set_option linter.all false
set_option maxRecDepth 100000
set_option maxHeartbeats 4000000
namespace Mw
open PySem PySem.Spec PyProof.Rows L2 GE
def spGrowth (K : PySem.W.Frag) (T : List Addr) (aC : Addr) : Sp := fun vs H Q _ => ∃ (net pz : V) (n : Nat) (ws : Wl) (ps : List Pr), vs = [net, pz] ∧ Wf n ws ∧ Rp H (netD n ws) net ∧ Rp H (pairsD ps) pz ∧ PsOk n ps ∧ (∀ q ∈ ps, Cn (wedges ws) q.1 q.2) ∧ Wd T H ∧
  ∀ a vs H', H' a = some (.tup vs) → TkL K H' (allGro n ws ps).1.taken vs → Ext T noM H H' → Q (.ref a) H'
section
variable {P : Program} {w : World} {K : PySem.W.Frag} {mg : Str → Option Value} {base : Heap} {T : List Addr} {aC : Addr}
end
end Mw

set_option Elab.async false
set_option linter.all false
set_option maxRecDepth 100000
set_option maxHeartbeats 4000000
namespace Mw
open PySem PySem.Spec PyProof.Rows L2 GE
/-! ### the law's own fractions -/
theorem half_mod {a b : Nat} (h0 : 0 < b) (h : b < a) : 2 * (a % b) < a := by
  have h1 := Nat.mod_lt a h0
  have h2 := Nat.mod_add_div a b
  have h3 : 1 ≤ a / b := Nat.div_pos (Nat.le_of_lt h) h0
  have h4 : b * 1 ≤ b * (a / b) := Nat.mul_le_mul_left b h3
  omega
def spGcd : Sp := fun vs H Q _ => ∃ (a b : Nat), vs = [.int (a : Nat), .int (b : Nat)] ∧ b < 2 ^ 50 ∧ ∀ H', (∀ T, Ext T noM H H') → Q (.int (Nat.gcd a b : Nat)) H'
def spLRatio (K : PySem.W.Frag) (T : List Addr) : Sp := fun vs H Q _ => ∃ (t b u : Int), vs = [.int t, .int b] ∧ 0 < b ∧ b < 2 ^ 50 ∧ t * 4096 = u * b ∧ ∀ v H', FrV K H' u v → Ext T noM H H' → Q v H'
def spExact (K : PySem.W.Frag) (T : List Addr) : Sp := fun vs H Q _ => ∃ (u : Int), vs = [.int (u * 268435456)] ∧ ∀ v H', FrV K H' u v → Ext T noM H H' → Q v H'
theorem pow_half {i : Nat} (hi : i < 50) : (2 : Nat) ^ (50 - i) = 2 * 2 ^ (50 - (i + 1)) := by
  rw [show 50 - i = (50 - (i + 1)) + 1 by omega, Nat.pow_succ, Nat.mul_comm]
section
variable {P : Program} {w : World} {K : PySem.W.Frag} {mg : Str → Option Value} {base : Heap} {T : List Addr} {aC : Addr}
end
end Mw

set_option linter.all false
namespace Mw
/-! ### fractions t / b of any size, in lowest terms -/
def gX (t b : Int) : Int := t / ((Nat.gcd t.natAbs b.natAbs : Nat) : Int)
def gY (t b : Int) : Int := b / ((Nat.gcd t.natAbs b.natAbs : Nat) : Int)
theorem g_pos (t : Int) {b : Int} (hb : 0 < b) : 0 < Nat.gcd t.natAbs b.natAbs := Nat.gcd_pos_of_pos_right _ (by omega)
theorem gX_mul (t b : Int) : gX t b * ((Nat.gcd t.natAbs b.natAbs : Nat) : Int) = t := Int.ediv_mul_cancel (Int.ofNat_dvd_left.mpr (Nat.gcd_dvd_left _ _))
theorem gY_mul (t b : Int) : gY t b * ((Nat.gcd t.natAbs b.natAbs : Nat) : Int) = b := Int.ediv_mul_cancel (Int.ofNat_dvd_left.mpr (Nat.gcd_dvd_right _ _))
theorem gY_pos (t : Int) {b : Int} (hb : 0 < b) : 0 < gY t b := pos_of_mul (gY_mul t b) (by have := g_pos t hb; omega) hb
theorem gY_le (t : Int) {b : Int} (hb : 0 < b) : gY t b ≤ b := by
  have h1 := gY_mul t b
  have h2 := gY_pos t hb
  have h3 : (1 : Int) ≤ ((Nat.gcd t.natAbs b.natAbs : Nat) : Int) := by have := g_pos t hb; omega
  have := Int.mul_le_mul_of_nonneg_left h3 (Int.le_of_lt h2)
  omega
theorem gX_le (t : Int) {b : Int} (hb : 0 < b) : (gX t b).natAbs ≤ t.natAbs := by
  have h1 := gX_mul t b
  have h3 := g_pos t hb
  have h4 : (gX t b).natAbs * Nat.gcd t.natAbs b.natAbs = t.natAbs := by
    have := congrArg Int.natAbs h1
    rw [Int.natAbs_mul] at this
    exact this
  have := Nat.mul_le_mul_left (gX t b).natAbs h3
  omega
theorem g_eq (t b : Int) : gX t b * b = t * gY t b := by
  have h1 := gX_mul t b
  have h2 := gY_mul t b
  generalize ((Nat.gcd t.natAbs b.natAbs : Nat) : Int) = g at h1 h2
  have e1 : gX t b * b = gX t b * (gY t b * g) := by rw [h2]
  have e2 : t * gY t b = gX t b * g * gY t b := by rw [h1]
  rw [e1, e2, Int.mul_comm (gY t b) g, Int.mul_assoc]
theorem g_cop (t : Int) {b : Int} (hb : 0 < b) : Int.gcd (gX t b) (gY t b) = 1 := by
  have hg := g_pos t hb
  have h1 : Int.gcd (gX t b * ((Nat.gcd t.natAbs b.natAbs : Nat) : Int)) (gY t b * ((Nat.gcd t.natAbs b.natAbs : Nat) : Int)) = Int.gcd (gX t b) (gY t b) * Nat.gcd t.natAbs b.natAbs := by
    rw [Int.gcd_mul_right]; rfl
  rw [gX_mul, gY_mul] at h1
  have h2 : Int.gcd t b = Nat.gcd t.natAbs b.natAbs := rfl
  rw [h2] at h1
  have : 1 * Nat.gcd t.natAbs b.natAbs = Int.gcd (gX t b) (gY t b) * Nat.gcd t.natAbs b.natAbs := by omega
  exact (Nat.eq_of_mul_eq_mul_right hg this).symm
/-- equal values have the same lowest terms -/
theorem g_uniq {t b t' b' : Int} (hb : 0 < b) (hb' : 0 < b') (h : t * b' = t' * b) : gX t b = gX t' b' ∧ gY t b = gY t' b' := by
  refine cop_uniq (gY_pos t hb) (gY_pos t' hb') (g_cop t hb) (g_cop t' hb') ?_
  have h1 := g_eq t b
  have h2 := g_eq t' b'
  have hp : 0 < b * b' := Int.mul_pos hb hb'
  have e1 : gX t b * gY t' b' * (b * b') = t * gY t b * gY t' b' * b' := by
    rw [← h1]
    simp only [Int.mul_assoc, Int.mul_comm, Int.mul_left_comm]
  have e2 : gX t' b' * gY t b * (b * b') = t' * gY t' b' * gY t b * b := by
    rw [← h2]
    simp only [Int.mul_assoc, Int.mul_comm, Int.mul_left_comm]
  have e3 : t * gY t b * gY t' b' * b' = t' * gY t' b' * gY t b * b := by
    have a1 : t * gY t b * gY t' b' * b' = (t * b') * (gY t b * gY t' b') := by simp only [Int.mul_assoc, Int.mul_comm, Int.mul_left_comm]
    have a2 : t' * gY t' b' * gY t b * b = (t' * b) * (gY t b * gY t' b') := by simp only [Int.mul_assoc, Int.mul_comm, Int.mul_left_comm]
    rw [a1, a2, h]
  exact Int.eq_of_mul_eq_mul_right (show b * b' ≠ 0 by omega) (by rw [e1, e2, e3])
theorem g_fr (u : Int) : gX u 4096 = frX u ∧ gY u 4096 = frY u := ⟨rfl, rfl⟩
theorem g_one (t : Int) : gX t 1 = t ∧ gY t 1 = 1 := by
  unfold gX gY
  have : Nat.gcd t.natAbs (1 : Int).natAbs = 1 := Nat.gcd_one_right _
  rw [this]
  exact ⟨Int.ediv_one _, rfl⟩
theorem g_int (c : Int) {D : Int} (hD : 0 < D) : gX (c * D) D = c ∧ gY (c * D) D = 1 := by
  obtain ⟨h1, h2⟩ := g_uniq (t := c * D) (b := D) (t' := c) (b' := 1) hD (by decide) (by omega)
  rw [h1, h2]; exact g_one c
theorem g_zero {D : Int} (hD : 0 < D) : gX 0 D = 0 ∧ gY 0 D = 1 := by
  have := g_int 0 hD
  rw [Int.zero_mul] at this; exact this
theorem mul4 (a b c d : Int) : a * b * (c * d) = (a * c) * (b * d) := by simp only [Int.mul_assoc, Int.mul_comm, Int.mul_left_comm]
theorem g_plus {u v D : Int} (hD : 0 < D) : (gX u D * gY v D + gX v D * gY u D) * D = (u + v) * (gY u D * gY v D) := by
  have h1 := g_eq u D
  have h2 := g_eq v D
  rw [Int.add_mul, Int.add_mul, Int.mul_right_comm, h1, Int.mul_right_comm (gX v D), h2, Int.mul_assoc, Int.mul_assoc, Int.mul_comm (gY v D) (gY u D)]
theorem g_minus {u v D : Int} (hD : 0 < D) : (gX u D * gY v D - gX v D * gY u D) * D = (u - v) * (gY u D * gY v D) := by
  have h1 := g_eq u D
  have h2 := g_eq v D
  rw [Int.sub_mul, Int.sub_mul, Int.mul_right_comm, h1, Int.mul_right_comm (gX v D), h2, Int.mul_assoc, Int.mul_assoc, Int.mul_comm (gY v D) (gY u D)]
theorem g_times {u v D E : Int} : (gX u D * gX v E) * (D * E) = (u * v) * (gY u D * gY v E) := by
  rw [mul4, g_eq, g_eq, mul4]
theorem g_less {u v D : Int} (hD : 0 < D) : gX u D * gY v D < gX v D * gY u D ↔ u < v := by
  have h1 := g_eq u D
  have h2 := g_eq v D
  have p : 0 < gY u D * gY v D := Int.mul_pos (gY_pos u hD) (gY_pos v hD)
  have e1 : gX u D * gY v D * D = u * (gY u D * gY v D) := by rw [Int.mul_right_comm, h1, Int.mul_assoc]
  have e2 : gX v D * gY u D * D = v * (gY u D * gY v D) := by rw [Int.mul_right_comm, h2, Int.mul_assoc, Int.mul_comm (gY v D)]
  constructor
  · intro h
    have h3 : gX u D * gY v D * D < gX v D * gY u D * D := Int.mul_lt_mul_of_pos_right h hD
    rw [e1, e2] at h3
    exact Int.lt_of_mul_lt_mul_right h3 (Int.le_of_lt p)
  · intro h
    have h3 := Int.mul_lt_mul_of_pos_right h p
    rw [← e1, ← e2] at h3
    exact Int.lt_of_mul_lt_mul_right h3 (Int.le_of_lt hD)
theorem g_sign {u D : Int} (hD : 0 < D) : 0 < gX u D ↔ 0 < u := by
  have h := g_eq u D
  have hy := gY_pos u hD
  constructor
  · intro p
    have : 0 < u * gY u D := by rw [← h]; exact Int.mul_pos p hD
    exact pos_of_mul rfl hy this
  · intro p
    have : 0 < gX u D * D := by rw [h]; exact Int.mul_pos p hy
    exact pos_of_mul rfl hD this
end Mw

set_option Elab.async false
set_option linter.all false
set_option maxRecDepth 100000
set_option maxHeartbeats 4000000
namespace Mw
open PySem PySem.Spec PyProof.Rows L2 GE
/-! ### fractions of any size -/
def FrQ (K : PySem.W.Frag) (H : Hp) (u D : Int) (v : V) : Prop := ∃ a, v = .ref a ∧ SqT K H a [.int (gX u D), .int (gY u D)]
theorem FrQ.x {K : PySem.W.Frag} {T : List Addr} {H H' : Hp} {u D : Int} {v : V} (h : FrQ K H u D v) (e : Ext T noM H H') : FrQ K H' u D v := by
  obtain ⟨a, rfl, h⟩ := h
  exact ⟨a, rfl, SqT.x h e fun z => z⟩
theorem FrV.q {K : PySem.W.Frag} {H : Hp} {u : Int} {v : V} (h : FrV K H u v) : FrQ K H u 4096 v := h
theorem FrQ.v {K : PySem.W.Frag} {H : Hp} {u : Int} {v : V} (h : FrQ K H u 4096 v) : FrV K H u v := h
theorem FrQ.to {K : PySem.W.Frag} {H : Hp} {u D u' D' : Int} {v : V} (h : FrQ K H u D v) (hD : 0 < D) (hD' : 0 < D') (e : u * D' = u' * D) : FrQ K H u' D' v := by
  obtain ⟨a, rfl, h⟩ := h
  obtain ⟨h1, h2⟩ := g_uniq hD hD' e
  exact ⟨a, rfl, by rw [← h1, ← h2]; exact h⟩
theorem FrQ.int {K : PySem.W.Frag} {H : Hp} {a : Addr} {c D : Int} (h : SqT K H a [.int c, .int 1]) (hD : 0 < D) : FrQ K H (c * D) D (.ref a) := by
  obtain ⟨h1, h2⟩ := g_int c hD
  exact ⟨a, rfl, by rw [h1, h2]; exact h⟩
def spRatioQ (K : PySem.W.Frag) (T : List Addr) : Sp := fun vs H Q _ => ∃ (t b u D : Int) (B : Nat), vs = [.int t, .int b] ∧ 0 < b ∧ 0 < D ∧ b.natAbs < 2 ^ B ∧ 0 < B ∧ B ≤ 9000 ∧ t * D = u * b ∧ ∀ v H', FrQ K H' u D v → Ext T noM H H' → Q v H'
/-- two fractions with a common bottom -/
def twoQ (K : PySem.W.Frag) (H : Hp) (x y : V) (u v D : Int) (B : Nat) : Prop := FrQ K H u D x ∧ FrQ K H v D y ∧ 0 < D ∧ D.natAbs < 2 ^ B ∧ u.natAbs < 2 ^ B ∧ v.natAbs < 2 ^ B ∧ 0 < B ∧ B ≤ 4500
def spPlusQ (K : PySem.W.Frag) (T : List Addr) : Sp := fun vs H Q _ => ∃ (x y : V) (u v D : Int) (B : Nat), vs = [x, y] ∧ twoQ K H x y u v D B ∧ ∀ z H', FrQ K H' (u + v) D z → Ext T noM H H' → Q z H'
def spMinusQ (K : PySem.W.Frag) (T : List Addr) : Sp := fun vs H Q _ => ∃ (x y : V) (u v D : Int) (B : Nat), vs = [x, y] ∧ twoQ K H x y u v D B ∧ ∀ z H', FrQ K H' (u - v) D z → Ext T noM H H' → Q z H'
def spLessQ (K : PySem.W.Frag) (T : List Addr) : Sp := fun vs H Q _ => ∃ (x y : V) (u v D : Int) (B : Nat), vs = [x, y] ∧ twoQ K H x y u v D B ∧ ∀ H', Ext T noM H H' → Q (.bl (decide (u < v))) H'
theorem twoQ.cx {K : PySem.W.Frag} {H : Hp} {x y : V} {u v D : Int} {B : Nat} (h : twoQ K H x y u v D B) : CMulW (gX u D) (gY v D) ∧ CMulW (gX v D) (gY u D) ∧ CMulW (gY u D) (gY v D) ∧ 0 < gY u D * gY v D ∧ (gY u D * gY v D).natAbs < 2 ^ (B + B) := by
  obtain ⟨_, _, hD, h1, h2, h3, h4, h5⟩ := h
  have a1 := gX_le u hD
  have a2 := gX_le v hD
  have b1 := gY_le u hD
  have b2 := gY_le v hD
  have c1 := gY_pos u hD
  have c2 := gY_pos v hD
  have d1 : (gX u D).natAbs < 2 ^ B := by omega
  have d2 : (gX v D).natAbs < 2 ^ B := by omega
  have d3 : (gY u D).natAbs < 2 ^ B := by omega
  have d4 : (gY v D).natAbs < 2 ^ B := by omega
  exact ⟨wide_mul d1 d4 h4 h4 (by omega), wide_mul d2 d3 h4 h4 (by omega), wide_mul d3 d4 h4 h4 (by omega), Int.mul_pos c1 c2, wide_lt d3 d4⟩
theorem gcdW {t b : Int} {B : Nat} (hb : 0 < b) (h : b.natAbs < 2 ^ B) (h0 : 0 < B) (h9 : B ≤ 9000) : CDivW t ((Nat.gcd t.natAbs b.natAbs : Nat) : Int) := by
  have g0 := g_pos t hb
  have g1 : Nat.gcd t.natAbs b.natAbs ≤ b.natAbs := Nat.le_of_dvd (by omega) (Nat.gcd_dvd_right _ _)
  exact wide_div (by omega) (show ((Nat.gcd t.natAbs b.natAbs : Nat) : Int).natAbs < 2 ^ B by omega) h0 h9
/-! ### rows of a paper -/
def absS (us : List Int) : Nat := (us.map Int.natAbs).sum
theorem absS_take : ∀ (us : List Int) (i : Nat), (us.take i).sum.natAbs ≤ absS us
  | [], i => by simp [absS]
  | u :: us, 0 => by simp
  | u :: us, i + 1 => by
    have := absS_take us i
    unfold absS at *
    simp only [List.take_succ_cons, List.sum_cons, List.map_cons]
    have := Int.natAbs_add_le u (us.take i).sum
    omega
theorem absS_mem {us : List Int} {u : Int} (h : u ∈ us) : u.natAbs ≤ absS us := by
  induction us with
  | nil => cases h
  | cons x us ih =>
    unfold absS at *
    simp only [List.map_cons, List.sum_cons]
    rcases List.mem_cons.mp h with q | q
    · subst q; omega
    · have := ih q; omega
def RowQ (K : PySem.W.Frag) (H : Hp) (u D : Int) (v : V) : Prop := ∃ a x fv, v = .ref a ∧ SqT K H a [x, fv] ∧ FrQ K H u D fv
theorem RowQ.x {K : PySem.W.Frag} {T : List Addr} {H H' : Hp} {u D : Int} {v : V} (h : RowQ K H u D v) (e : Ext T noM H H') : RowQ K H' u D v := by
  obtain ⟨a, x, fv, rfl, h1, h2⟩ := h
  exact ⟨a, x, fv, rfl, SqT.x h1 e fun z => z, h2.x e⟩
def RowsQ (K : PySem.W.Frag) (H : Hp) (us : List Int) (D : Int) (rows : List V) : Prop := rows.length = us.length ∧ ∀ (i : Nat) (u : Int), us[i]? = some u → ∃ v, rows[i]? = some v ∧ RowQ K H u D v
def spWorth (K : PySem.W.Frag) (T : List Addr) : Sp := fun vs H Q _ => ∃ (l : Addr) (rows : List V) (us : List Int) (D : Int) (B : Nat), vs = [.ref l] ∧ (SqT K H l rows ∨ SqL K H l rows) ∧ RowsQ K H us D rows ∧ 0 < D ∧ D.natAbs < 2 ^ B ∧ absS us < 2 ^ B ∧ 0 < B ∧ B ≤ 4500 ∧
  ∀ v H', FrQ K H' us.sum D v → Ext T noM H H' → Q v H'
theorem SqL.y {K : PySem.W.Frag} {T : List Addr} {H H' : Hp} {a : Addr} {xs : List V} (h : SqL K H a xs) (e : Ext T noM H H') : SqL K H' a xs := by
  rcases h with (h | ⟨o, h⟩) | h
  · exact .inl (.inl (e.lst (fun z => z) h))
  · exact .inl (.inr ⟨o, e.kp _ _ (fun z => z) h fun ps z => by cases z⟩)
  · exact .inr h
theorem zero_q {K : PySem.W.Frag} {az : Addr} {D : Int} (h : SqT K (fun _ => none) az [.int (frX 0), .int (frY 0)]) (H : Hp) (hD : 0 < D) : FrQ K H 0 D (.ref az) := by
  obtain ⟨h1, h2⟩ := g_zero hD
  refine ⟨az, rfl, ?_⟩
  rw [h1, h2]
  rcases h with (h | ⟨o, h⟩) | h
  · cases h
  · cases h
  · have e1 : frX 0 = 0 := (fr_int 0).1
    have e2 : frY 0 = 1 := (fr_int 0).2
    exact .inr (by rw [e1, e2] at h; exact h)
/-! ### the law's own -/
def spGcdQ : Sp := fun vs H Q _ => ∃ (a b B : Nat), vs = [.int (a : Nat), .int (b : Nat)] ∧ b < 2 ^ B ∧ B ≤ 9000 ∧ ∀ H', (∀ T, Ext T noM H H') → Q (.int (Nat.gcd a b : Nat)) H'
def spLRatioQ (K : PySem.W.Frag) (T : List Addr) : Sp := fun vs H Q _ => ∃ (t b u D : Int) (B : Nat), vs = [.int t, .int b] ∧ 0 < b ∧ 0 < D ∧ b.natAbs < 2 ^ B ∧ 0 < B ∧ B ≤ 9000 ∧ t * D = u * b ∧ ∀ v H', FrQ K H' u D v → Ext T noM H H' → Q v H'
def spLPlusQ (K : PySem.W.Frag) (T : List Addr) : Sp := fun vs H Q _ => ∃ (x y : V) (u v D : Int) (B : Nat), vs = [x, y] ∧ twoQ K H x y u v D B ∧ ∀ z H', FrQ K H' (u + v) D z → Ext T noM H H' → Q z H'
def spLMinus (K : PySem.W.Frag) (T : List Addr) : Sp := fun vs H Q _ => ∃ (x y : V) (u v D : Int) (B : Nat), vs = [x, y] ∧ twoQ K H x y u v D B ∧ ∀ z H', FrQ K H' (u - v) D z → Ext T noM H H' → Q z H'
def spLLess (K : PySem.W.Frag) (T : List Addr) : Sp := fun vs H Q _ => ∃ (x y : V) (u v D : Int) (B : Nat), vs = [x, y] ∧ twoQ K H x y u v D B ∧ ∀ H', Ext T noM H H' → Q (.bl (decide (u < v))) H'
def spLTimes (K : PySem.W.Frag) (T : List Addr) : Sp := fun vs H Q _ => ∃ (x y : V) (u v D E : Int) (B : Nat), vs = [x, y] ∧ FrQ K H u D x ∧ FrQ K H v E y ∧ 0 < D ∧ 0 < E ∧ D.natAbs < 2 ^ B ∧ E.natAbs < 2 ^ B ∧ u.natAbs < 2 ^ B ∧ v.natAbs < 2 ^ B ∧ 0 < B ∧ B ≤ 4500 ∧ ∀ z H', FrQ K H' (u * v) (D * E) z → Ext T noM H H' → Q z H'
def FrsQ (K : PySem.W.Frag) (H : Hp) (us : List Int) (D : Int) (vs : List V) : Prop := vs.length = us.length ∧ ∀ (i : Nat) (u : Int), us[i]? = some u → ∃ v, vs[i]? = some v ∧ FrQ K H u D v
def spLSumQ (K : PySem.W.Frag) (T : List Addr) : Sp := fun vs H Q _ => ∃ (l : Addr) (rows : List V) (us : List Int) (D : Int) (B : Nat), vs = [.ref l] ∧ SqL K H l rows ∧ FrsQ K H us D rows ∧ 0 < D ∧ D.natAbs < 2 ^ B ∧ absS us < 2 ^ B ∧ 0 < B ∧ B ≤ 4500 ∧ ∀ v H', FrQ K H' us.sum D v → Ext T noM H H' → Q v H'
theorem FrsQ.x {K : PySem.W.Frag} {T : List Addr} {H H' : Hp} {us : List Int} {D : Int} {vs : List V} (h : FrsQ K H us D vs) (e : Ext T noM H H') : FrsQ K H' us D vs := ⟨h.1, fun i u hu => by obtain ⟨v, q1, q2⟩ := h.2 i u hu; exact ⟨v, q1, q2.x e⟩⟩
theorem pow_halfB {B i : Nat} (hi : i < B) : (2 : Nat) ^ (B - i) = 2 * 2 ^ (B - (i + 1)) := by
  rw [show B - i = (B - (i + 1)) + 1 by omega, Nat.pow_succ, Nat.mul_comm]
section
variable {P : Program} {w : World} {K : PySem.W.Frag} {mg : Str → Option Value} {base : Heap} {T : List Addr} {aC : Addr}
theorem okQ_ratio {f : Addr} {fd : FuncData} (F : Fun K "ratio" "ratio" sratio f fd) (m_gcd : mg "gcd" = some (.builtin "math.gcd")) : FnOk P w K mg base CX0 1 f fd ["top", "bottom"] (spRatioQ K T) := by
  refine F.ok scratio (fun vs H Q E h => ?_) (fun cdv A outer s H vs Q E hr h => ?_)
  · obtain ⟨t, b, u, D, B, rfl, b0, D0, b1, B0, B9, hu, k⟩ := h
    rfl
  · obtain ⟨t, b, u, D, B, rfl, b0, D0, b1, B0, B9, hu, k⟩ := h
    refine ⟨_, (pss_cons (ps_set (i := 2) scratio.nd rfl (Or.inl rfl) (pe_callBfun cr_gcd (by rfl) m_gcd (pa_cons (pv 0) (pa_cons (pv 1) pa_nil))))
      (pss_one (ps_ret (pe_tup (pa_cons (pe_op op_fdivW (pv 0) (pv 2)) (pa_cons (pe_op op_fdivW (pv 1) (pv 2)) pa_nil)))))), ?_⟩
    obtain ⟨f1, f2⟩ := g_uniq b0 D0 hu
    have cw := gcdW (t := t) b0 b1 B0 B9
    refine ⟨_, rfl, _, rfl, t, b, rfl, ?_⟩
    refine ⟨_, rfl, _, rfl, _, _, rfl, rfl, cw, _, rfl, _, rfl, _, _, rfl, rfl, cw, by show 2 ≤ sizeLine; decide, fun a ha => k _ _ ⟨a, rfl, SqT.of ?_⟩ (Ext.new ha)⟩
    rw [upd_same, ← f1, ← f2]
    rfl
theorem okQ_plus {f : Addr} {fd : FuncData} (F : Fun K "plus" "plus" splus f fd) {fratio : Addr} {fdratio : FuncData} (Fratio : Fun K "ratio" "ratio" sratio fratio fdratio) (Gratio : FnOk P w K mg base CX0 1 fratio fdratio ["top", "bottom"] (spRatioQ K T)) (bratio : Binds K fdratio ["top", "bottom"] []) (gratio : mg "ratio" = some (.ref fratio)) : FnOk P w K mg base CX0 2 f fd ["first", "second"] (spPlusQ K T) := by
  refine F.ok scplus (fun vs H Q E h => ?_) (fun cdv A outer s H vs Q E hr h => ?_)
  · obtain ⟨x, y, u, v, D, B, rfl, tq, k⟩ := h
    rfl
  · obtain ⟨x, y, u, v, D, B, rfl, tq, k⟩ := h
    refine ⟨_, (pss_one (ps_ret (pe_call Gratio hr (by rfl) gratio Fratio.kp bratio .nil pass0 (pa_cons (pe_op op_add (pe_op op_mulW (pe_ix ix_tup (pv 0) pe_int (fun _ _ => rfl)) (pe_ix ix_tup (pv 1) pe_int (fun _ _ => rfl))) (pe_op op_mulW (pe_ix ix_tup (pv 1) pe_int (fun _ _ => rfl)) (pe_ix ix_tup (pv 0) pe_int (fun _ _ => rfl)))) (pa_cons (pe_op op_mulW (pe_ix ix_tup (pv 0) pe_int (fun _ _ => rfl)) (pe_ix ix_tup (pv 1) pe_int (fun _ _ => rfl))) pa_nil))))), ?_⟩
    have cx := tq.cx
    obtain ⟨hx, hy, D0, DB, uB, vB, B0, B9⟩ := tq
    obtain ⟨c1, c2, c3, y1, y2⟩ := cx
    obtain ⟨a, rfl, ha⟩ := hx
    obtain ⟨b, rfl, hb⟩ := hy
    refine ⟨_, rfl, a, _, _, _, rfl, rfl, ha, at_of (j := 0) rfl rfl, _, rfl, b, _, _, _, rfl, rfl, hb, at_of (j := 1) rfl rfl, _, _, rfl, rfl, c1, _, rfl, b, _, _, _, rfl, rfl, hb, at_of (j := 0) rfl rfl, _, rfl, a, _, _, _, rfl, rfl, ha, at_of (j := 1) rfl rfl, _, _, rfl, rfl, c2, ?_⟩
    
    exact ⟨_, _, rfl, rfl, _, rfl, a, _, _, _, rfl, rfl, ha, at_of (j := 1) rfl rfl, _, rfl, b, _, _, _, rfl, rfl, hb, at_of (j := 1) rfl rfl, _, _, rfl, rfl, c3, _, _, u + v, D, B + B, rfl, y1, D0, y2, by omega, by omega, g_plus D0, fun z H' hz e => k z H' hz e⟩
theorem okQ_minus {f : Addr} {fd : FuncData} (F : Fun K "minus" "minus" sminus f fd) {fratio : Addr} {fdratio : FuncData} (Fratio : Fun K "ratio" "ratio" sratio fratio fdratio) (Gratio : FnOk P w K mg base CX0 1 fratio fdratio ["top", "bottom"] (spRatioQ K T)) (bratio : Binds K fdratio ["top", "bottom"] []) (gratio : mg "ratio" = some (.ref fratio)) : FnOk P w K mg base CX0 2 f fd ["first", "second"] (spMinusQ K T) := by
  refine F.ok scminus (fun vs H Q E h => ?_) (fun cdv A outer s H vs Q E hr h => ?_)
  · obtain ⟨x, y, u, v, D, B, rfl, tq, k⟩ := h
    rfl
  · obtain ⟨x, y, u, v, D, B, rfl, tq, k⟩ := h
    refine ⟨_, (pss_one (ps_ret (pe_call Gratio hr (by rfl) gratio Fratio.kp bratio .nil pass0 (pa_cons (pe_op op_sub (pe_op op_mulW (pe_ix ix_tup (pv 0) pe_int (fun _ _ => rfl)) (pe_ix ix_tup (pv 1) pe_int (fun _ _ => rfl))) (pe_op op_mulW (pe_ix ix_tup (pv 1) pe_int (fun _ _ => rfl)) (pe_ix ix_tup (pv 0) pe_int (fun _ _ => rfl)))) (pa_cons (pe_op op_mulW (pe_ix ix_tup (pv 0) pe_int (fun _ _ => rfl)) (pe_ix ix_tup (pv 1) pe_int (fun _ _ => rfl))) pa_nil))))), ?_⟩
    have cx := tq.cx
    obtain ⟨hx, hy, D0, DB, uB, vB, B0, B9⟩ := tq
    obtain ⟨c1, c2, c3, y1, y2⟩ := cx
    obtain ⟨a, rfl, ha⟩ := hx
    obtain ⟨b, rfl, hb⟩ := hy
    refine ⟨_, rfl, a, _, _, _, rfl, rfl, ha, at_of (j := 0) rfl rfl, _, rfl, b, _, _, _, rfl, rfl, hb, at_of (j := 1) rfl rfl, _, _, rfl, rfl, c1, _, rfl, b, _, _, _, rfl, rfl, hb, at_of (j := 0) rfl rfl, _, rfl, a, _, _, _, rfl, rfl, ha, at_of (j := 1) rfl rfl, _, _, rfl, rfl, c2, ?_⟩
    
    exact ⟨_, _, rfl, rfl, _, rfl, a, _, _, _, rfl, rfl, ha, at_of (j := 1) rfl rfl, _, rfl, b, _, _, _, rfl, rfl, hb, at_of (j := 1) rfl rfl, _, _, rfl, rfl, c3, _, _, u - v, D, B + B, rfl, y1, D0, y2, by omega, by omega, g_minus D0, fun z H' hz e => k z H' hz e⟩
theorem okQ_less {f : Addr} {fd : FuncData} (F : Fun K "less" "less" sless f fd) : FnOk P w K mg base CX0 1 f fd ["first", "second"] (spLessQ K T) := by
  refine F.ok scless (fun vs H Q E h => ?_) (fun cdv A outer s H vs Q E hr h => ?_)
  · obtain ⟨x, y, u, v, D, B, rfl, tq, k⟩ := h
    rfl
  · obtain ⟨x, y, u, v, D, B, rfl, tq, k⟩ := h
    refine ⟨_, (pss_one (ps_ret (pe_cmpR op_lt (pe_op op_mulW (pe_ix ix_tup (pv 0) pe_int (fun _ _ => rfl)) (pe_ix ix_tup (pv 1) pe_int (fun _ _ => rfl))) (pe_op op_mulW (pe_ix ix_tup (pv 1) pe_int (fun _ _ => rfl)) (pe_ix ix_tup (pv 0) pe_int (fun _ _ => rfl))) (nomark _)))), ?_⟩
    have cx := tq.cx
    obtain ⟨hx, hy, D0, DB, uB, vB, B0, B9⟩ := tq
    obtain ⟨c1, c2, c3, y1, y2⟩ := cx
    obtain ⟨a, rfl, ha⟩ := hx
    obtain ⟨b, rfl, hb⟩ := hy
    refine ⟨_, rfl, a, _, _, _, rfl, rfl, ha, at_of (j := 0) rfl rfl, _, rfl, b, _, _, _, rfl, rfl, hb, at_of (j := 1) rfl rfl, _, _, rfl, rfl, c1, _, rfl, b, _, _, _, rfl, rfl, hb, at_of (j := 0) rfl rfl, _, rfl, a, _, _, _, rfl, rfl, ha, at_of (j := 1) rfl rfl, _, _, rfl, rfl, c2, ?_⟩
    
    have hk := k H (Ext.refl _ _ _)
    rw [show decide (u < v) = decide (gX u D * gY v D < gX v D * gY u D) from by rw [decide_eq_decide]; exact (g_less D0).symm] at hk
    exact ⟨_, _, rfl, rfl, hk⟩
theorem ok_worth {f : Addr} {fd : FuncData} (F : Fun K "worth" "worth" sworth f fd) {fplus : Addr} {fdplus : FuncData} (Fplus : Fun K "plus" "plus" splus fplus fdplus) (Gplus : FnOk P w K mg base CX0 2 fplus fdplus ["first", "second"] (spPlusQ K T)) (bplus : Binds K fdplus ["first", "second"] []) (gplus : mg "plus" = some (.ref fplus)) {az : Addr} (g_ZERO : mg "ZERO" = some (.ref az)) (hz0 : SqT K (fun _ => none) az [.int (frX 0), .int (frY 0)]) : FnOk P w K mg base CX0 3 f fd ["paper"] (spWorth K T) := by
  refine F.ok scworth (fun vs H Q E h => ?_) (fun cdv A outer s H vs Q E hr h => ?_)
  · obtain ⟨l, rows, us, D, B, rfl, hl, hrw, D0, DB, uB, B0, B9, k⟩ := h
    rfl
  · obtain ⟨l, rows, us, D, B, rfl, hl, hrw, D0, DB, uB, B0, B9, k⟩ := h
    refine ⟨_, (pss_cons (ps_set (i := 1) scworth.nd rfl (Or.inl rfl) (pe_glob (v := .ref az) (by rfl) g_ZERO rfl))
      (pss_cons (ps_for PassesOwn.never rfl (GE.pi_or (pi_tup (pv 0)) (pi_list (pv 0))) (pg_name (i := 2) scworth.nd rfl (Or.inl rfl)) (pss_one (ps_set (i := 1) scworth.nd rfl (Or.inl rfl) (pe_call Gplus hr (by rfl) gplus Fplus.kp bplus .nil pass0 (pa_cons (pv 1) (pa_cons (pe_ix ix_tup (pv 2) pe_int (fun _ _ => rfl)) pa_nil))))))
      (pss_one (ps_ret (pv 1))))), ?_⟩
    have hz := zero_q (D := D) hz0 H D0
    have inv0 : ∃ (v : V) (y2 : Option V), [some (V.ref l), some (V.ref az), none] = [some (V.ref l), some v, y2] ∧ FrQ K H (us.take 0).sum D v ∧ Ext T noM H H := ⟨_, _, rfl, hz, Ext.refl _ _ _⟩
    have turn : ∀ (i : Nat) (x : V) (σ' : L2.St) (H2 : Hp), rows[i]? = some x → (∃ (v : V) (y2 : Option V), σ' = [some (V.ref l), some v, y2] ∧ FrQ K H2 (us.take i).sum D v ∧ Ext T noM H H2) → ∃ (v x : V) (u D' : Int), v = v := fun i x σ' H2 _ _ => ⟨.non, .non, 0, 0, rfl⟩
    have step : ∀ (i : Nat) (x v : V) (H2 : Hp), rows[i]? = some x → FrQ K H2 (us.take i).sum D v → Ext T noM H H2 → ∃ (xa : Addr) (y fv : V) (u : Int), x = .ref xa ∧ SqT K H2 xa [y, fv] ∧ twoQ K H2 v fv (us.take i).sum u D B ∧ (us.take (i + 1)).sum = (us.take i).sum + u := fun i x v H2 hx hv e => by
      have hi : i < us.length := by have := (List.getElem?_eq_some_iff.mp hx).1; rw [hrw.1] at this; exact this
      have hu : us[i]? = some us[i] := List.getElem?_eq_getElem hi
      obtain ⟨x', q1, q2⟩ := hrw.2 i us[i] hu
      rw [hx] at q1
      obtain rfl := Option.some.inj q1
      obtain ⟨xa, y, fv, rfl, q3, q4⟩ := q2.x e
      refine ⟨xa, y, fv, us[i], rfl, q3, ⟨hv, q4, D0, DB, Nat.lt_of_le_of_lt (absS_take us i) uB, Nat.lt_of_le_of_lt (absS_mem (List.getElem_mem hi)) uB, B0, B9⟩, ?_⟩
      rw [take_succ' hu, List.sum_append]; simp
    rcases hl with hl | hl
    · refine .inl ⟨_, rfl, l, rfl, ⟨_, hl⟩, for_tup (K := K) (a := l) (xs := rows) (fun i σ' H' => ∃ (v : V) (y2 : Option V), σ' = [some (V.ref l), some v, y2] ∧ FrQ K H' (us.take i).sum D v ∧ Ext T noM H H') inv0 (fun i σ' H' _ ⟨_, _, _, _, e⟩ => SqT.x hl e fun z => z) ?_ ?_⟩
      · rintro i x σ' H2 hx ⟨v, y2, rfl, hv, e2⟩
        obtain ⟨xa, y, fv, u, rfl, q3, q4, q5⟩ := step i x v H2 hx hv e2
        refine ⟨_, rfl, _, rfl, xa, _, _, _, rfl, rfl, q3, at_of (j := 1) rfl rfl, v, fv, _, u, D, B, rfl, q4, fun z H3 hz3 e3 => ?_⟩
        exact ⟨_, _, rfl, by rw [q5]; exact hz3, e2.trans e3⟩
      · rintro σ' H2 ⟨v, y2, rfl, hv, e2⟩
        rw [hrw.1, List.take_length] at hv
        exact ⟨_, rfl, k v H2 hv e2⟩
    · refine .inr ⟨_, rfl, l, rfl, ⟨_, hl⟩, for_list (K := K) (a := l) (xs := rows) (fun i σ' H' => ∃ (v : V) (y2 : Option V), σ' = [some (V.ref l), some v, y2] ∧ FrQ K H' (us.take i).sum D v ∧ Ext T noM H H') inv0 (fun i σ' H' _ ⟨_, _, _, _, e⟩ => SqL.y hl e) ?_ ?_⟩
      · rintro i x σ' H2 hx ⟨v, y2, rfl, hv, e2⟩
        obtain ⟨xa, y, fv, u, rfl, q3, q4, q5⟩ := step i x v H2 hx hv e2
        refine ⟨_, rfl, _, rfl, xa, _, _, _, rfl, rfl, q3, at_of (j := 1) rfl rfl, v, fv, _, u, D, B, rfl, q4, fun z H3 hz3 e3 => ?_⟩
        exact ⟨_, _, rfl, by rw [q5]; exact hz3, e2.trans e3⟩
      · rintro σ' H2 ⟨v, y2, rfl, hv, e2⟩
        rw [hrw.1, List.take_length] at hv
        exact ⟨_, rfl, k v H2 hv e2⟩
theorem ok__law_gcd {f : Addr} {fd : FuncData} (F : Fun K "_law_gcd" "_law_gcd" s_law_gcd f fd) (m_range : mg "range" = none) (m_int : mg "int" = none) : FnOk P w K mg base CX0 1 f fd ["a", "b"] (spGcdQ) := by
  refine F.ok sc_law_gcd (fun vs H Q E h => ?_) (fun cdv A outer s H vs Q E hr h => ?_)
  · obtain ⟨a, b, B, rfl, hb, hB, k⟩ := h
    rfl
  · obtain ⟨a, b, B, rfl, hb, hB, k⟩ := h
    refine ⟨_, (pss_cons (ps_for PassesOwn.never rfl (pi_range1 (by rfl) m_range (pa_cons pe_int pa_nil)) (pg_name (i := 2) sc_law_gcd.nd rfl (Or.inl rfl)) (pss_cons (ps_if (pt_cmpR op_eq (pv 1) pe_int (nomark _)) (pss_one (ps_ret (pv 0))) pss_nil)
      (pss_one (ps_par (i := 0) (j := 1) rfl sc_law_gcd.nd rfl rfl (by decide) rfl rfl (pa_cons (pv 1) (pa_cons (pe_op op_mod (pe_callTy call_int1 (by rfl) m_int (by decide +kernel) (pa_cons (pv 0) pa_nil)) (pv 1)) pa_nil)) rfl))))
      (pss_one (ps_ret pe_int))), ?_⟩
    refine ⟨100000, rfl, by decide, by decide, for_range (lo := 0) (n := 100000) (fun i σ' H' => ∃ (x y : Nat) (y2 : Option V), σ' = [some (.int (x : Nat)), some (.int (y : Nat)), y2] ∧ Nat.gcd x y = Nat.gcd a b ∧ (∀ T, Ext T noM H H') ∧ i ≤ 2 * B ∧ ((i % 2 = 0 ∧ y < 2 ^ (B - i / 2)) ∨ (i % 2 = 1 ∧ y < x ∧ x < 2 ^ (B - i / 2)))) ⟨a, b, none, rfl, rfl, fun T => Ext.refl _ _ _, Nat.zero_le _, .inl ⟨rfl, hb⟩⟩ ?_ ?_⟩
    · rintro i σ' H1 hi ⟨x, y, y2, rfl, hg, e1, hi100, hp⟩
      refine ⟨_, rfl, rfl, _, rfl, ?_⟩
      refine ite2 (fun q => ?_) (fun q => ?_)
      · have hy : y = 0 := by have := vint_inj.mp (show V.int ((y : Nat) : Int) = V.int ((0 : Nat) : Int) from of_decide_eq_true q); omega
        subst hy
        rw [Nat.gcd_zero_right] at hg
        subst hg
        exact ⟨_, rfl, k H1 e1⟩
      · have hy : 0 < y := by
          rcases Nat.eq_zero_or_pos y with z | z
          · subst z; exact absurd (decide_eq_true rfl) q
          · exact z
        have him : i < 2 * B := by
          rcases Nat.lt_or_eq_of_le hi100 with z | z
          · exact z
          · subst z
            rcases hp with ⟨_, h⟩ | ⟨h, _⟩
            · have e : B - 2 * B / 2 = 0 := by omega
              rw [e] at h
              have : y < 1 := h
              omega
            · omega
        have e : (x : Int) % (y : Int) = ((x % y : Nat) : Int) := rfl
        refine ⟨_, rfl, _, rfl, .inl ⟨_, rfl, _, rfl, _, _, rfl, rfl, by omega, _, _, rfl, ?_⟩⟩
        dsimp only
        rw [e]
        have hm := Nat.mod_lt x hy
        refine ⟨y, x % y, _, rfl, by rw [← hg, Nat.gcd_comm x y, Nat.gcd_rec y x, Nat.gcd_comm], e1, by omega, ?_⟩
        rcases hp with ⟨h1, h2⟩ | ⟨h1, h2, h3⟩
        · exact .inr ⟨by omega, hm, by rw [show (i + 1) / 2 = i / 2 by omega]; exact h2⟩
        · have h4 := half_mod hy h2
          have h5 := pow_halfB (B := B) (i := i / 2) (by omega)
          exact .inl ⟨by omega, by rw [show (i + 1) / 2 = i / 2 + 1 by omega]; omega⟩
    · rintro σ' H1 ⟨x, y, y2, rfl, hg, e1, hi100, hp⟩
      exact absurd hi100 (by omega)
theorem ok__law_ratio {f : Addr} {fd : FuncData} (F : Fun K "_law_ratio" "_law_ratio" s_law_ratio f fd) (m_abs : mg "abs" = none) {f_law_gcd : Addr} {fd_law_gcd : FuncData} (F_law_gcd : Fun K "_law_gcd" "_law_gcd" s_law_gcd f_law_gcd fd_law_gcd) (G_law_gcd : FnOk P w K mg base CX0 1 f_law_gcd fd_law_gcd ["a", "b"] (spGcdQ)) (b_law_gcd : Binds K fd_law_gcd ["a", "b"] []) (g_law_gcd : mg "_law_gcd" = some (.ref f_law_gcd)) : FnOk P w K mg base CX0 2 f fd ["top", "bottom"] (spLRatioQ K T) := by
  refine F.ok sc_law_ratio (fun vs H Q E h => ?_) (fun cdv A outer s H vs Q E hr h => ?_)
  · obtain ⟨t, b, u, D, B, rfl, b0, D0, b1, B0, B9, hu, k⟩ := h
    rfl
  · obtain ⟨t, b, u, D, B, rfl, b0, D0, b1, B0, B9, hu, k⟩ := h
    refine ⟨_, (pss_cons (ps_set (i := 2) sc_law_ratio.nd rfl (Or.inl rfl) (pe_call G_law_gcd hr (by rfl) g_law_gcd F_law_gcd.kp b_law_gcd .nil pass0 (pa_cons (pe_callB call_abs (by rfl) m_abs (by decide +kernel) (pa_cons (pv 0) pa_nil)) (pa_cons (pe_callB call_abs (by rfl) m_abs (by decide +kernel) (pa_cons (pv 1) pa_nil)) pa_nil))))
      (pss_cons (ps_if (pt_cmpR op_lt (pv 1) pe_int (nomark _)) (pss_one (ps_set (i := 2) sc_law_ratio.nd rfl (Or.inl rfl) (pe_op op_sub pe_int (pv 2)))) pss_nil)
      (pss_one (ps_ret (pe_tup (pa_cons (pe_op op_fdivW (pv 0) (pv 2)) (pa_cons (pe_op op_fdivW (pv 1) (pv 2)) pa_nil))))))), ?_⟩
    obtain ⟨f1, f2⟩ := g_uniq b0 D0 hu
    have ea : ∀ z : Int, (if z < 0 then -z else z) = ((z.natAbs : Nat) : Int) := fun z => by split <;> omega
    refine ⟨_, rfl, _, rfl, _, rfl, _, rfl, t.natAbs, b.natAbs, B, by rw [ea, ea]; rfl, b1, B9, fun H1 e1 => ?_⟩
    refine ⟨_, rfl, _, _, rfl, rfl, _, rfl, ?_⟩
    rw [decide_eq_false (by omega)]
    refine iteF ?_
    have cw := gcdW (t := t) b0 b1 B0 B9
    refine ⟨_, rfl, _, rfl, _, _, rfl, rfl, cw, _, rfl, _, rfl, _, _, rfl, rfl, cw, by show 2 ≤ sizeLine; decide, fun a ha => k _ _ ⟨a, rfl, SqT.of ?_⟩ ((e1 T).trans (Ext.new ha))⟩
    rw [upd_same, ← f1, ← f2]
    rfl
theorem ok__law_times {f : Addr} {fd : FuncData} (F : Fun K "_law_times" "_law_times" s_law_times f fd) {f_law_ratio : Addr} {fd_law_ratio : FuncData} (F_law_ratio : Fun K "_law_ratio" "_law_ratio" s_law_ratio f_law_ratio fd_law_ratio) (G_law_ratio : FnOk P w K mg base CX0 2 f_law_ratio fd_law_ratio ["top", "bottom"] (spLRatioQ K T)) (b_law_ratio : Binds K fd_law_ratio ["top", "bottom"] []) (g_law_ratio : mg "_law_ratio" = some (.ref f_law_ratio)) : FnOk P w K mg base CX0 3 f fd ["a", "b"] (spLTimes K T) := by
  refine F.ok sc_law_times (fun vs H Q E h => ?_) (fun cdv A outer s H vs Q E hr h => ?_)
  · obtain ⟨x, y, u, v, D, E, B, rfl, hx, hy, D0, E0, DB, EB, uB, vB, B0, B9, k⟩ := h
    rfl
  · obtain ⟨x, y, u, v, D, E, B, rfl, hx, hy, D0, E0, DB, EB, uB, vB, B0, B9, k⟩ := h
    refine ⟨_, (pss_one (ps_ret (pe_call G_law_ratio hr (by rfl) g_law_ratio F_law_ratio.kp b_law_ratio .nil pass0 (pa_cons (pe_op op_mulW (pe_ix ix_tup (pv 0) pe_int (fun _ _ => rfl)) (pe_ix ix_tup (pv 1) pe_int (fun _ _ => rfl))) (pa_cons (pe_op op_mulW (pe_ix ix_tup (pv 0) pe_int (fun _ _ => rfl)) (pe_ix ix_tup (pv 1) pe_int (fun _ _ => rfl))) pa_nil))))), ?_⟩
    have a1 := gX_le u D0
    have a2 := gX_le v E0
    have b1 := gY_le u D0
    have b2 := gY_le v E0
    have p1 := gY_pos u D0
    have p2 := gY_pos v E0
    have d1 : (gX u D).natAbs < 2 ^ B := by omega
    have d2 : (gX v E).natAbs < 2 ^ B := by omega
    have d3 : (gY u D).natAbs < 2 ^ B := by omega
    have d4 : (gY v E).natAbs < 2 ^ B := by omega
    obtain ⟨a, rfl, ha⟩ := hx
    obtain ⟨b, rfl, hb⟩ := hy
    exact ⟨_, rfl, a, _, _, _, rfl, rfl, ha, at_of (j := 0) rfl rfl, _, rfl, b, _, _, _, rfl, rfl, hb, at_of (j := 0) rfl rfl, _, _, rfl, rfl, wide_mul d1 d2 B0 B0 (by omega), _, rfl, a, _, _, _, rfl, rfl, ha, at_of (j := 1) rfl rfl, _, rfl, b, _, _, _, rfl, rfl, hb, at_of (j := 1) rfl rfl, _, _, rfl, rfl, wide_mul d3 d4 B0 B0 (by omega), _, _, u * v, D * E, B + B, rfl, Int.mul_pos p1 p2, Int.mul_pos D0 E0, wide_lt d3 d4, by omega, by omega, g_times, k⟩
end
end Mw

set_option Elab.async false
set_option linter.all false
set_option maxRecDepth 100000
set_option maxHeartbeats 2000000
namespace GE
open PySem PySem.Spec PyProof.Rows L2
/-! ### sum of a tuple of ints -/
section
variable {prog : Program} {w : World} {A : Around} {E : Value → Shared → Prop} {s : Shared} {l : Addr} {xs : Array (Int × Tok)}
theorem sum_intTupG {Q : Value → Shared → Prop} (hh : A.handled = none) (hl : s.heap.IsTuple l (intItems xs))
    (h : ∀ h' tk t', (∀ b o, s.heap.get? b = some o → h'.get? b = some o) → Q (.int (preSum (numAt xs) xs.size) t') { s with heap := h', toks := tk }) :
    wpAny (model prog w) A (call (.builtin "sum") [.ref l]) Q E s := by
  have hlt : l < s.heap.objs.size := by obtain ⟨_, e, _⟩ := hl; exact Heap.lt_size e
  refine PySem.call_sum_walkG (wpAny_pyIter_tuple hl ?_)
  refine ⟨_, _, _, _, _, _, numAt xs, rfl, Walks.tuple (A := A.in1) hh s.heap.objs.size l (Nat.ne_of_lt hlt) (intItems xs), ⟨⟨_, Heap.get?_push_size _ rfl, rfl, rfl⟩, hl.push _⟩, fun b hb => ?_, (fun _ _ => intItems_at), fun h' tk t' hk => ?_⟩
  · show b < (s.heap.push _).objs.size
    rw [Heap.size_push]
    rcases List.mem_cons.mp hb with rfl | hb
    · exact Nat.lt_succ_self _
    · rcases List.mem_cons.mp hb with rfl | hb
      · exact Nat.lt_succ_of_lt hlt
      · cases hb
  · have := h h' tk t' fun b o e => hk b o (fun hb => absurd (Heap.lt_size e) ((List.mem_singleton.mp hb) ▸ Nat.lt_irrefl _)) (Heap.get?_push_of_some _ e)
    simpa [intItems] using this
theorem sum_rawT {its : List Value} {ns : List Int} {Q : Value → Shared → Prop} (hh : A.handled = none) (hl : s.heap.IsTuple l its.toArray) (hi : IntsAre its ns)
    (h : ∀ h' tk t', (∀ b o, s.heap.get? b = some o → h'.get? b = some o) → Q (.int ns.sum t') { s with heap := h', toks := tk }) : wpAny (model prog w) A (call (.builtin "sum") [.ref l]) Q E s := by
  obtain ⟨xs, e⟩ := hi.allInts.items
  have hn : numsOf (intItems xs).toList = ns := by rw [← e]; exact hi.numsOf
  rw [nums_intItems] at hn
  rw [e] at hl
  refine sum_intTupG hh hl fun h' tk t' hk => ?_
  have := h h' tk t' hk
  rw [preSum_eq, List.take_of_length_le (by simp), hn]; exact this
end
def rSumT (K : PySem.W.Frag) : List V → Hp → VK → Prop := fun vs H Q => ∃ (a : Addr) (ns : List Int), vs = [V.ref a] ∧ SqT K H a (ns.map V.int) ∧ Q (.int ns.sum) H
theorem cr_sumT {X : Cx} (hc : X.calm = true) : CallR X (.builtin "sum") (rSumT X.K) := by
  intro pins s σ H vs us Q I r h
  obtain ⟨a, ns, rfl, hs, q⟩ := h
  obtain ⟨its, rv, hl, _⟩ := I.tuple hs
  rw [Vals.ref1 r]
  exact sum_rawT (I.ok.hd hc) (show s.heap.IsTuple a its.toArray from hl) rv.ints fun h' tk t' hk => ⟨.int _, H, I.kept hk, ⟨_, rfl⟩, q⟩
/-- a generator expression over a range -/
theorem turn_rangeI {lo : Int} {n : Nat} {g : TG} {tt : TT} {te : TE} {vs : List Nat} {σ : L2.St} {Yo : YO} {En : EN} {H : Hp} (Pv : Nat → List V → Hp → Prop) (h0 : Pv 0 [] H) (hd : ∀ ys H, Pv n ys H → En ys H)
    (hs : ∀ i ys H, i < n → Pv i ys H → ∀ N : List V → Hp → Prop, (∀ zs H', Pv (i + 1) zs H' → N zs H') → g (.int (lo + (i : Int))) (wipe σ vs) H fun σ2 H2 => wipe σ2 vs = wipe σ vs ∧ tt σ2 H2 fun b H3 =>
      if b = true then te σ2 H3 fun y H4 => ys.length < sizeLine ∧ Yo ys y H4 (N (ys ++ [y]) H4) else N ys H3) :
    ∃ W : Nat → Nat → List V → Hp → Prop, (∃ m, W 0 m [] H) ∧ turnX g tt te vs σ Yo En (Itr lo n) W := by
  refine turn_of n Pv h0 (fun ys H p => ⟨Nat.le_refl _, hd ys H p⟩) (fun i ys H h p => h) ?_
  rintro i x ys H H1 h p ⟨rfl, rfl⟩ N hN
  exact hs i ys _ h p N hN
end GE

set_option Elab.async false
set_option linter.all false
set_option maxRecDepth 100000
set_option maxHeartbeats 2000000
/-! sorted(d) of a dict whose keys are tuples of ints -/
namespace GE
open PySem PySem.Spec PyProof.Rows L2
/-- the whole numbers of a tuple -/
def keyH (H : Hp) : V → List Int
  | .ref a => match H a with
    | some (.tup xs) => xs.map iv
    | _ => []
  | _ => []
theorem keyH_at {H : Hp} {t : Addr} {ns : List Int} (h : H t = some (.tup (ns.map V.int))) : keyH H (.ref t) = ns := by
  show (match H t with | some (.tup xs) => xs.map iv | _ => []) = _
  rw [h]
  show (ns.map V.int).map iv = ns
  rw [List.map_map]
  exact List.map_id'' (fun _ => rfl) ns
def rSortDT : List V → Hp → VK → Prop := fun vs H Q => ∃ (d : Addr) (kvs : List (List L2.Key × V)), vs = [V.ref d] ∧ H d = some (.dT kvs) ∧ (∀ kv ∈ kvs, ∃ ns : List Int, kv.1 = ns.map Sum.inl ∧ ns ≠ []) ∧
  ∀ ys p bs, IsKeys H kvs bs → ys.Perm (bs.map V.ref) → SrtO.Srtd (fun x y => lexL (keyH H x) (keyH H y)) ys → H p = none → Q (.ref p) (upd H p (.lst ys))
theorem paired_mem {H : Hp} {kvs : List (List L2.Key × V)} {bs : List Addr} (h : IsKeys H kvs bs) : ∀ b ∈ bs, ∃ kv ∈ kvs, H b = some (.tup (kv.1.map kV)) := by
  unfold IsKeys at h
  induction h with
  | nil => intro b hb; cases hb
  | cons h t ih =>
    intro b hb
    rcases List.mem_cons.mp hb with e | e
    · subst e; exact ⟨_, List.mem_cons_self, h⟩
    · obtain ⟨kv, h1, h2⟩ := ih b e
      exact ⟨kv, List.mem_cons_of_mem _ h1, h2⟩
theorem op_catAK {X : Cx} {K : PySem.W.Frag} (h : X.K = K := by rfl) : OpR X (binaryOp .Add) (rCatA K) := h ▸ op_catA
theorem pi_tupK {X : Cx} {K : PySem.W.Frag} {tg e : Expr} {te : TE} (he : PE X e te) (h : X.K = K := by rfl) : PI X tg e (iTup K te) := h ▸ pi_tup he
theorem pi_listK {X : Cx} {K : PySem.W.Frag} {tg e : Expr} {te : TE} (he : PE X e te) (h : X.K = K := by rfl) : PI X tg e (iList K te) := h ▸ pi_list he
theorem cr_sortedDT {X : Cx} (hc : X.calm = true) : CallR X (.builtin "sorted") rSortDT := by
  intro pins s σ H xs us Q I r h
  obtain ⟨d, kvs, rfl, hd, hns, q⟩ := h
  obtain ⟨u, rfl, rx⟩ := r.one
  cases rx
  obtain ⟨z, hs, ks, pr, o, es, ep, ho, hx, hdt, he, hn⟩ := (show ObjOk X.prog X.w H s.heap d (.dT kvs) from I.hok d _ hd)
  have l1 : es.size = ks.length := size_of_entries he
  have l2 : kvs.length = ks.length := Paired.length pr
  have hkeys := isKeys_of pr
  refine Calls.call_function_entry kind_sorted plain_sorted entry_sorted (args_sorted1 _) ?_
  unfold Builtin.«sorted»
  refine wpAny_bind (m := checkCount "sorted" 1 1 _) (wpAny_pure ?_)
  refine wpAny_bind (PySem.W.kdu_collect (A := X.A.in1) (kdl_raw hs hx hdt) (I.ok.hd hc) ho (by omega) fun h' tk acc hk it => ?_)
  have ea : acc.toList = (ks.map fun x => x.2.1).map Value.ref := by
    have hl : acc.toList.length = ks.length := by rw [Array.length_toList, it.1]; exact l1
    rw [List.map_map]
    apply List.ext_getElem?
    intro j
    rw [List.getElem?_map]
    cases hj : acc.toList[j]? with
    | none =>
      have h1 := List.getElem?_eq_none_iff.mp hj
      rw [List.getElem?_eq_none (by omega)]
      all_goals rfl
    | some v =>
      obtain ⟨en, hen, hv⟩ := it.2 j v (by rw [← Array.getElem?_toList]; exact hj)
      have qe := entry_at he j
      rw [hen] at qe
      cases hb : ks[j]? with
      | none =>
        rw [hb] at qe
        exact nomatch (show some en = none from qe)
      | some b =>
        rw [hb] at qe
        have e2 : en = entryOfKey (tupleKind (mixKind X.prog X.w)) b := Option.some.inj qe
        rw [hv, e2]
        all_goals rfl
  rw [ea]
  generalize hbs : (ks.map fun x => x.2.1) = bs at hkeys ea
  have hbl : bs.length ≤ sizeLine := by rw [← hbs, List.length_map]; omega
  have hvl : (bs.map Value.ref).length ≤ sizeLine := by rw [List.length_map]; exact hbl
  have I1 : Inv X pins σ H { s with heap := h', toks := tk } := I.kept hk
  refine wpAny_bind (wpAny_newList ?_ hvl)
  have hoL : (h'.push (seqObj "list" (bs.map Value.ref).toArray 0)).get? h'.objs.size = some (seqObj "list" (bs.map Value.ref).toArray 0) := Heap.get?_push_size _ rfl
  show wpAny _ _ _ _ _ { s with heap := h'.push (seqObj "list" (bs.map Value.ref).toArray 0), toks := tk }
  have key : ∀ b ∈ bs, ∃ ns : List Int, H b = some (.tup (ns.map V.int)) ∧ ns ≠ [] ∧ keyH H (.ref b) = ns := fun b hb => by
    obtain ⟨kv, h1, h2⟩ := paired_mem hkeys b hb
    obtain ⟨ns, h3, h4⟩ := hns kv h1
    have e : kv.1.map kV = ns.map V.int := by rw [h3, List.map_map]; rfl
    rw [e] at h2
    exact ⟨ns, h2, h4, keyH_at h2⟩
  have hp : ∀ v ∈ bs.map Value.ref, TS.TupInts h' v (keyH H (backV v)) ∧ keyH H (backV v) ≠ [] := fun v hv => by
    obtain ⟨b, hb, rfl⟩ := List.mem_map.mp hv
    obtain ⟨ns, h1, h2, h3⟩ := key b hb
    have e : keyH H (backV (Value.ref b)) = ns := h3
    rw [e]
    exact ⟨tupI_raw I1 (SqT.of h1), h2⟩
  refine wpAny_bind (wpAny_holding (wpAny_call_entry slot_list_sort ⟨_, hoL, rfl⟩ entry_list_sort
    (SrtO.list_sort_ord (s := { s with heap := h'.push (seqObj "list" (bs.map Value.ref).toArray 0), toks := tk }) (lexL_swo fun v => keyH H (backV v)) hoL hvl
      (fun h2 => tups_sortable (s := { s with heap := h'.push (seqObj "list" (bs.map Value.ref).toArray 0), toks := tk }) h2 (fun v hm => ⟨(hp v hm).1.keeps fun c o e _ => Heap.get?_push_of_some _ e, (hp v hm).2⟩) fun o e => by
        have e' : some o = some (seqObj "list" (bs.map Value.ref).toArray 0) := e.symm.trans hoL
        cases e'
        intro c
        exact absurd (Value.type.inj c) (by decide)) fun out h1 h2 => ⟨_, rfl, ?_⟩) (args_list_sort _)))
  obtain ⟨ep', he'⟩ := PyProof.Rows.sortedHeap_at (vs := bs.map Value.ref) (out := out.toArray) hoL
  have h3 : ∀ u ∈ out, ∃ a, u = Value.ref a := fun u hu => by
    obtain ⟨b, _, e⟩ := List.mem_map.mp (h2.perm.mem_iff.mp hu)
    exact ⟨b, e.symm⟩
  have hperm : (out.map backV).Perm (bs.map V.ref) := by
    have := h2.perm.map backV
    rw [List.map_map] at this
    exact this
  have hlen : (out.map backV).length ≤ sizeLine := by rw [hperm.length_eq, List.length_map]; exact hbl
  refine wpAny_pure ⟨_, rfl, .ref h'.objs.size, upd H h'.objs.size (.lst (out.map backV)), I1.laid (t' := tk) (fun b u e => ?_) (Nat.le_refl _)
    (show ObjOk X.prog X.w _ _ _ (.lst (out.map backV)) from ⟨hlen, out, ep', vals_back h3, he'⟩), rfl, q _ _ bs hkeys hperm (SrtO.srtd_map h1) (I1.hok.fresh (Nat.le_refl _))⟩
  have hb : b < h'.objs.size := Heap.lt_size e
  rw [PyProof.Rows.sortedHeap_old (Nat.ne_of_lt hb) (by rw [size_push']; exact Nat.lt_succ_of_lt hb)]
  exact Heap.get?_push_of_some _ e
end GE

set_option linter.all false
namespace Mw
open GE
def li (l : List Nat) : List Int := l.map fun x : Nat => (x : Int)
theorem perm_sorted : ∀ {l m : List (List Int)}, l.Perm m → l.Pairwise (fun x y => lexL y x = false) → m.Pairwise (fun x y => lexL y x = false) → l = m
  | [], m, p, _, _ => (List.nil_perm.mp p).symm ▸ rfl
  | x :: l, [], p, _, _ => absurd p.length_eq (by simp)
  | x :: l, y :: m, p, h1, h2 => by
    obtain ⟨a1, a2⟩ := List.pairwise_cons.mp h1
    obtain ⟨b1, b2⟩ := List.pairwise_cons.mp h2
    have refl : ∀ z : List Int, lexL z z = false := fun z => by
      cases q : lexL z z with
      | false => rfl
      | true => have := lexL_asym z z q; rw [q] at this; exact this
    have hx : lexL y x = false := by
      rcases List.mem_cons.mp (p.mem_iff.mpr List.mem_cons_self : y ∈ x :: l) with e | e
      · rw [e]; exact refl _
      · exact a1 y e
    have hy : lexL x y = false := by
      rcases List.mem_cons.mp (p.mem_iff.mp List.mem_cons_self : x ∈ y :: m) with e | e
      · rw [e]; exact refl _
      · exact b1 x e
    have e : x = y := lexL_total x y hy hx
    subst e
    rw [perm_sorted (List.Perm.cons_inv p) a2 b2]
theorem reps_sorted {n : Nat} {es : List (Nat × Nat)} {h : Nat → Nat} (H : Hom n es h) : ((reps h n).map fun r => li (cls h n r)).Pairwise (fun x y => lexL y x = false) := by
  rw [List.pairwise_map]
  have pw : (reps h n).Pairwise (· < ·) := (range_pw n).filter _
  have key : ∀ (l : List Nat), l.Pairwise (· < ·) → (∀ r ∈ l, r < n ∧ h r = r) → l.Pairwise (fun x y => lexL (li (cls h n y)) (li (cls h n x)) = false) := by
    intro l
    induction l with
    | nil => intro _ _; exact List.Pairwise.nil
    | cons a l ih =>
      intro hp hl
      obtain ⟨p1, p2⟩ := List.pairwise_cons.mp hp
      refine List.pairwise_cons.mpr ⟨fun b hb => ?_, ih p2 fun r hr => hl r (List.mem_cons_of_mem _ hr)⟩
      have hab := p1 b hb
      obtain ⟨an, aa⟩ := hl a List.mem_cons_self
      obtain ⟨bn, bb⟩ := hl b (List.mem_cons_of_mem _ hb)
      obtain ⟨ra, ea⟩ := cls_head H an
      obtain ⟨rb, eb⟩ := cls_head H bn
      rw [ea, eb, aa, bb]
      show (if (b : Int) = (a : Int) then lexL _ _ else decide ((b : Int) < (a : Int))) = false
      rw [if_neg (by omega)]
      exact decide_eq_false (by omega)
  exact key _ pw fun r hr => mem_reps'.mp hr
/-- the groups when two are one -/
theorem reps_join {n : Nat} {es : List (Nat × Nat)} {h : Nat → Nat} (H : Hom n es h) {a b : Nat} (ha : a < n) (hb : b < n) (hne : h a ≠ h b) :
    (((reps h n).filter fun r => decide (r ≠ h a) && decide (r ≠ h b)) ++ [min (h a) (h b)]).Perm (reps (relab h a b) n) := by
  have H2 := H.step ha hb
  have la := H.le a ha
  have lb := H.le b hb
  have ia := H.idem a ha
  have ib := H.idem b hb
  refine (List.perm_ext_iff_of_nodup ?_ (reps_nodup _ _)).mpr fun r => ?_
  · rw [List.nodup_append]
    refine ⟨(reps_nodup _ _).filter _, List.nodup_cons.mpr ⟨(fun h => nomatch h), List.nodup_nil⟩, fun x hx y hy e => ?_⟩
    subst e
    have e2 := List.mem_singleton.mp hy
    have := (List.mem_filter.mp hx).2
    rw [Bool.and_eq_true, decide_eq_true_eq, decide_eq_true_eq] at this
    omega
  · rw [List.mem_append, List.mem_filter, List.mem_singleton, mem_reps', mem_reps', Bool.and_eq_true, decide_eq_true_eq, decide_eq_true_eq]
    constructor
    · rintro (⟨⟨rn, rr⟩, n1, n2⟩ | e)
      · refine ⟨rn, ?_⟩
        rw [relab_eq H ha hb rn, if_neg (by rw [rr]; omega)]; exact rr
      · subst e
        have hm : min (h a) (h b) < n := by omega
        refine ⟨hm, ?_⟩
        have hmm : h (min (h a) (h b)) = min (h a) (h b) := by
          rcases Nat.le_total (h a) (h b) with z | z
          · rw [Nat.min_eq_left z]; exact ia
          · rw [Nat.min_eq_right z]; exact ib
        rw [relab_eq H ha hb hm, hmm]
        split
        · rfl
        · rfl
    · rintro ⟨rn, e⟩
      rw [relab_eq H ha hb rn] at e
      by_cases z : h r = h a ∨ h r = h b
      · rw [if_pos z] at e; exact .inr e.symm
      · rw [if_neg z] at e
        refine .inl ⟨⟨rn, e⟩, fun y => z (.inl (by rw [y, ia])), fun y => z (.inr (by rw [y, ib]))⟩
end Mw

set_option Elab.async false
set_option linter.all false
set_option maxRecDepth 100000
set_option maxHeartbeats 2000000
namespace GE
open PySem PySem.Spec PyProof.Rows L2
/-! ### generator expressions over lists, by an invariant -/
section
variable {K : PySem.W.Frag} {a : Addr} {xs : List V} {g : TG} {tt : TT} {te : TE} {vs : List Nat} {σ : L2.St} {Yo : YO} {En : EN} {H : Hp}
theorem turn_listI (Pv : Nat → List V → Hp → Prop) (h0 : Pv 0 [] H) (hl : ∀ i ys H, i ≤ xs.length → Pv i ys H → SqL K H a xs) (hd : ∀ ys H, Pv xs.length ys H → En ys H)
    (hs : ∀ i x ys H, xs[i]? = some x → Pv i ys H → ∀ N : List V → Hp → Prop, (∀ zs H', Pv (i + 1) zs H' → N zs H') → g x (wipe σ vs) H fun σ2 H2 => wipe σ2 vs = wipe σ vs ∧ tt σ2 H2 fun b H3 =>
      if b = true then te σ2 H3 fun y H4 => ys.length < sizeLine ∧ Yo ys y H4 (N (ys ++ [y]) H4) else N ys H3) :
    ∃ W : Nat → Nat → List V → Hp → Prop, (∃ m, W 0 m [] H) ∧ turnX g tt te vs σ Yo En (Itl K a) W := by
  refine turn_of xs.length Pv h0 (fun ys H p => ⟨⟨xs, hl _ _ _ (Nat.le_refl _) p, Nat.le_refl _⟩, hd ys H p⟩) (fun i ys H h p => ⟨xs, xs[i], hl _ _ _ (Nat.le_of_lt h) p, List.getElem?_eq_getElem h⟩) ?_
  rintro i x ys H H1 h p ⟨rfl, hy⟩ N hN
  exact hs i x ys H1 (hy xs (hl _ _ _ (Nat.le_of_lt h) p)) p N hN
end
/-- what is a permutation of images is the image of a permutation -/
theorem perm_lift {α β : Type} (f : α → β) {l l2 : List β} (h : List.Perm l2 l) : ∀ m : List α, l2 = List.map f m → ∃ m' : List α, List.Perm m' m ∧ List.map f m' = l := by
  induction h with
  | nil => intro m e; exact ⟨m, List.Perm.refl _, e.symm⟩
  | cons x h ih =>
    intro m e
    cases m with
    | nil => cases e
    | cons a m =>
      rw [List.map_cons] at e
      injection e with e1 e2
      obtain ⟨m', h1, h2⟩ := ih m e2
      exact ⟨a :: m', h1.cons a, by rw [List.map_cons, h2, ← e1]⟩
  | swap x y l =>
    intro m e
    match m, e with
    | a :: b :: m, e =>
      rw [List.map_cons, List.map_cons] at e
      injection e with e1 e2
      injection e2 with e2 e3
      exact ⟨b :: a :: m, List.Perm.swap _ _ _, by rw [List.map_cons, List.map_cons, ← e1, ← e2, ← e3]⟩
  | trans h1 h2 ih1 ih2 =>
    intro m e
    obtain ⟨m1, p1, e1⟩ := ih1 m e
    obtain ⟨m2, p2, e2⟩ := ih2 m1 e1.symm
    exact ⟨m2, p2.trans p1, e2⟩
end GE

set_option Elab.async false
set_option linter.all false
set_option maxRecDepth 100000
set_option maxHeartbeats 2000000
/-! sets of tuples of ints, made by a comprehension -/
namespace GE
open PySem PySem.Spec PyProof.Rows L2
section
variable {X : Cx}
theorem setTO_at {pins : List (Addr × Obj)} {σ : L2.St} {H : Hp} {s : Shared} {D : Addr} {L : List (Addr × List Int)} (I : Inv X pins σ H s) (h : H D = some (SetTO X.prog X.w D L)) : SetT0 X.prog X.w s.heap D L := (I.hok D _ h).1
/-- D.add(x), x a tuple of ints -/
theorem addT {pins : List (Addr × Obj)} {σ : L2.St} {H : Hp} {s : Shared} {E : Value → Shared → Prop} {D x : Addr} {k : List Int} {L : List (Addr × List Int)} {Q : Value → Shared → Prop} (I : Inv X pins σ H s) (hD : H D = some (SetTO X.prog X.w D L))
    (hL : ∀ p ∈ L, SqT X.K H p.1 (p.2.map V.int)) (hx : SqT X.K H x (k.map V.int)) (hu : X.A.units + 3 < cLine) (few : L.length + 1 < 64)
    (h : ∀ L' s', (k ∈ L.map (·.2) → L' = L) → (k ∉ L.map (·.2) → L'.Perm ((x, k) :: L)) → Inv X pins σ (upd H D (SetTO X.prog X.w D L')) s' → Q .none s') :
    wpAny (model X.prog X.w) X.A (call (.builtin "set.add") [.ref D, .ref x]) Q E s := by
  obtain ⟨es, ep, t, R⟩ := (setTO_at I hD).full fun p hp => I.isT (hL p hp)
  have hxk := I.isT hx
  obtain ⟨o, ho, hex, hd⟩ := R.ob
  have hT : s.TypeIs (.ref D) "set" := ⟨o, ho, hex.1⟩
  refine wpAny_call_entry F.slot_set_add hT F.entry_set_add ?_ (F.args_set_add_2 _ _)
  unfold Builtin.«set.add» Builtin.Frozenset.oneOther
  simp only [List.isEmpty_nil, bind_assoc]
  unfold Builtin.Frozenset.addrOf setAdd
  refine wpAny_bind (wpAny_pure ?_)
  try dsimp only
  refine wpAny_bind (wpAny_pure ?_)
  try dsimp only
  refine wpAny_bind (wpAny_holding (wpAny_bind (wpAny_pyHash_tuple (by first | exact (by omega : X.A.units < cLine) | (simp; omega)) hxk ?_)))
  refine add_at (s := { s with toks := s.toks + (k.length + 1) }) R hxk (by first | exact (by omega : X.A.units < cLine) | (simp; omega)) few fun b h' L' es' ep' t' hsb hS2 c1 c2 => ?_
  show wpAny _ _ (ret Value.none) _ _ _
  obtain ⟨o', ho', _⟩ := hS2.ob
  exact wpAny_pure ⟨_, rfl, h L' _ c1 c2 (I.write (e := D) (t' := s.toks + (k.length + 1)) (by rw [hD]; trivial) (.inl rfl) (fun b u hb hu => (hsb.2 b hb).trans hu) ⟨o', ho'⟩ (setTO_new hS2.t0))⟩
/-- len of a set of tuples -/
def rLenT (K : PySem.W.Frag) (P : Program) (w : World) : List V → Hp → VK → Prop := fun xs H Q => ∃ (D : Addr) (L : List (Addr × List Int)), xs = [V.ref D] ∧ H D = some (SetTO P w D L) ∧ (∀ p ∈ L, SqT K H p.1 (p.2.map V.int)) ∧ Q (.int L.length) H
theorem cr_lenT : CallR X (.builtin "len") (rLenT X.K X.prog X.w) := by
  intro pins s σ H xs us Q I r h
  obtain ⟨D, L, rfl, hD, hL, q⟩ := h
  rw [Vals.ref1 r]
  obtain ⟨es, ep, t, R⟩ := (setTO_at I hD).full fun p hp => I.isT (hL p hp)
  obtain ⟨o, ho, hex, hd⟩ := R.ob
  have hz := R.size
  have hf := R.few
  exact call_len_set ho hex hd R.fits (by omega) ⟨.int L.length, H, I.tok _, ⟨_, by rw [hz]⟩, q⟩
end
section
variable {X : Cx}
/-- one turn of {elt for target in iter if ..}: what is added is a tuple of ints -/
def addStep (K : PySem.W.Frag) (P : Program) (w : World) (D : Addr) (y : V) (H4 : Hp) (Nx : Hp → Prop) : Prop :=
  ∃ (x : Addr) (k : List Int) (L : List (Addr × List Int)), y = .ref x ∧ SqT K H4 x (k.map V.int) ∧ H4 D = some (SetTO P w D L) ∧ (∀ p ∈ L, SqT K H4 p.1 (p.2.map V.int)) ∧ L.length + 1 < 64 ∧
    ∀ L', (k ∈ L.map (·.2) → L' = L) → (k ∉ L.map (·.2) → L'.Perm ((x, k) :: L)) → Nx (upd H4 D (SetTO P w D L'))
def turnT (K : PySem.W.Frag) (P : Program) (w : World) (g : TG) (tt : TT) (te : TE) (vs : List Nat) (σ : L2.St) (D : Addr) (Fin : Hp → Prop) (J : It) (W : Nat → Nat → Hp → Prop) : Prop := ∀ i m H, W i m H →
  (J.stop i H ∧ Fin H) ∨ (J.go i H ∧ ∃ Nx : Hp → Prop, (∀ H', Nx H' → ∃ m', m' < m ∧ W (i + 1) m' H') ∧ ∀ x H', J.yld i H x H' → g x (wipe σ vs) H' fun σ2 H2 => wipe σ2 vs = wipe σ vs ∧ tt σ2 H2 fun b H3 =>
    if b = true then te σ2 H3 fun y H4 => addStep K P w D y H4 Nx else Nx H3)
def tScT (K : PySem.W.Frag) (P : Program) (w : World) (wi : TI) (g : TG) (tt : TT) (te : TE) (vs : List Nat) : TE := fun σ H Q => wi σ H fun J H1 => ∀ D, H1 D = none → ∃ W : Nat → Nat → Hp → Prop, (∃ m, W 0 m (upd H1 D (SetTO P w D []))) ∧
  turnT K P w g tt te vs σ D (fun H' => Q (.ref D) H') J W
abbrev newSetObj (X : Cx) : Obj := { cls := .type "set", dict := none, data := .set #[] 0 (.fresh 0 0 (!X.w.params.followText "set-order")) }
end
end GE

set_option Elab.async false
set_option linter.all false
set_option maxRecDepth 100000
set_option maxHeartbeats 4000000
namespace GE
open PySem PySem.Spec PyProof.Rows L2
section
variable {X : Cx}
/-- the block's context: after s3, H3, with the walk's own objects fp -/
abbrev blkOf (X : Cx) (scope : Scope) (fp : List Addr) (r : Shared) (K : Hp) : Cx := X.blk r K scope (compEnvC scope (cellsFrom (r.heap.objs.size + 1) scope.names (cloFrom X.env.cells scope.names [])) r.heap.objs.size X.env) fp
theorem scT_run {pins : List (Addr × Obj)} {s : Shared} {σ : L2.St} {H : Hp} {Q : VK} {elt tg iter : Expr} {ifs : List Expr} {scope : Scope} {own : List (PySem.Str × Nat)} {pos : Pos} {wi : TI} {g : TG} {tt : TT} {te : TE}
    (hc : X.calm = true) (hN : X.N.Nodup) (hu : X.A.units + 3 < cLine) (I : Inv X pins σ H s) (hi : PI X tg iter wi) (ok : BlkOk X.N X.env.scope scope own)
    (hg : ∀ r K C cl fp, PG (X.blk r K scope (compEnvC scope cl C X.env) fp) tg g) (ht : ∀ r K C cl fp, PTs (X.blk r K scope (compEnvC scope cl C X.env) fp) ifs tt) (he : ∀ r K C cl fp, PE (X.blk r K scope (compEnvC scope cl C X.env) fp) elt te)
    (hs : ∀ x, foldedSetIterable iter X.env x = pure x) (h : tScT X.K X.prog X.w wi g tt te (own.map (·.2)) σ H Q) :
    wpAny (model X.prog X.w) X.A (eval (.SetComp elt [⟨tg, iter, ifs, 0⟩] scope pos) X.env) (fun v s' => ∃ u H', Inv X pins σ H' s' ∧ RelV u v ∧ Q u H') X.xe s := by
  rw [PpSet.eval_SetComp]
  have clos : ∀ y ∈ scope.names, y.2 = .free → ∃ c, X.env.cells.lookup y.1 = some c := fun y hy e => (ok.free y hy e).elim (fun k => I.ok.has _ (.inl k)) (fun k => I.ok.has _ (.inr k))
  refine wpAny_comprehension_free (use := none) rfl hs (closure_ok clos) ok.kind (fun y hy e => by rw [ok.uniq y hy, e]) (thn (hi.run pins s σ H _ I h) fun v0 r0 q0 => thn q0 fun v1 r1 q1 => ?_)
  obtain ⟨it, fp, tn, J, HA, rfl, IA, T, stA, fA, q⟩ := q1
  refine PpSet.newSet_ok (newEnv_comp ?_)
  obtain ⟨W, ⟨m0, w0⟩, turn⟩ := q r1.heap.objs.size (IA.hok.fresh (Nat.le_refl _))
  have below : ∀ b ∈ fp, b < r1.heap.objs.size := fun b hb => by
    obtain ⟨o, e, _⟩ := T.obj _ _ stA b hb
    exact Heap.lt_size e
  generalize hD : r1.heap.objs.size = D at w0 turn below ⊢
  generalize hr2 : ({ r1 with heap := r1.heap.push (newSetObj X) } : Shared) = r2
  have hh2 : r2.heap = r1.heap.push (newSetObj X) := by rw [← hr2]
  have sz2 : r2.heap.objs.size = D + 1 := by rw [hh2, Heap.size_push, hD]
  have IB : Inv X pins σ (upd HA D (SetTO X.prog X.w D [])) r2 := by
    rw [← hr2]
    refine IA.laid (t' := r1.toks) (fun b o e => Heap.get?_push_of_some _ e) (Nat.le_of_eq hD) (setTO_new ?_)
    exact (setTR_fresh (P := X.prog) (w := X.w) (by rw [← hD]; exact Heap.get?_push_size _ rfl)).t0
  have fB : ∀ b ∈ fp, FpOk X pins (upd HA D (SetTO X.prog X.w D [])) b ∧ b < r2.heap.objs.size := fun b hb => by
    have hlt := below b hb
    exact ⟨⟨(upd_ne (Nat.ne_of_lt hlt)).trans (fA b hb).1, (fA b hb).2⟩, by rw [sz2]; exact Nat.lt_succ_of_lt hlt⟩
  have IC := block_start IB ok hN fB
  have pg := hg r2 (upd HA D (SetTO X.prog X.w D [])) r2.heap.objs.size (cellsFrom (r2.heap.objs.size + 1) scope.names (cloFrom X.env.cells scope.names [])) fp
  have pt := ht r2 (upd HA D (SetTO X.prog X.w D [])) r2.heap.objs.size (cellsFrom (r2.heap.objs.size + 1) scope.names (cloFrom X.env.cells scope.names [])) fp
  have pe := he r2 (upd HA D (SetTO X.prog X.w D [])) r2.heap.objs.size (cellsFrom (r2.heap.objs.size + 1) scope.names (cloFrom X.env.cells scope.names [])) fp
  generalize hHB : upd HA D (SetTO X.prog X.w D []) = HB at IB fB IC pg pt pe w0
  have free0 : ∀ b ∈ fp, HB b = none := fun b hb => (fB b hb).1.1
  generalize hce : compEnvC scope (cellsFrom (r2.heap.objs.size + 1) scope.names (cloFrom X.env.cells scope.names [])) r2.heap.objs.size X.env = ce at IC pg pt pe
  have cl : ce.locals = r2.heap.objs.size := by rw [← hce]; rfl
  generalize hr3 : ({ r2 with heap := pushCells (r2.heap.push { cls := .type "dict", data := .dict #[] }) scope.names } : Shared) = r3 at IC
  have st3 : tn 0 r3.heap := T.keep _ _ _ stA fun b _ o e => by
    rw [← hr3]
    refine pushCells_keeps _ _ _ _ (Heap.get?_push_of_some _ ?_)
    rw [hh2]; exact Heap.get?_push_of_some _ e
  have hold : ∀ {τ : L2.St} {K : Hp} {r : Shared}, Inv (X.blk r2 HB scope ce fp) [] τ K r → (∀ b ∈ fp, K b = none) → ∀ b ∈ fp, FpOk (X.blk r2 HB scope ce fp) [] K b := fun {τ K r} IK n b hb =>
    ⟨n b hb, (IK.ok.exf b hb).1, IK.ok.exfs b hb, .inl hb, fun x c e => (IK.ok.exf b hb).2 x c e, fun p hp => absurd (show p ∈ ([] : List (Addr × Obj)) ++ [] from hp) (by simp)⟩
  -- what stands at the head of each turn
  let Hd : Nat → Shared → Prop := fun m r => ∃ i K, Inv (X.blk r2 HB scope ce fp) [] (wipe σ (own.map (·.2))) K r ∧ tn i r.heap ∧ (∀ b ∈ fp, K b = none) ∧ W i m K
  have loop : codeAny (model X.prog X.w) X.A (.compLoop (.SetComp elt [⟨tg, iter, ifs, 0⟩] scope pos) 0 (.ref it) (.ref D) ce) (compPost (model X.prog X.w) X.A X.xe none (fun v s' => ∃ u H', Inv X pins σ H' s' ∧ RelV u v ∧ Q u H') (.ref D) r2.heap.objs.size) r3 := by
    refine PpSet.compLoopS_any Hd (fun m r hm => ?_) m0 ⟨0, HB, IC, st3, free0, w0⟩
    obtain ⟨i, K, IK, stK, nK, wK⟩ := hm
    rcases turn i m K wK with ⟨stop, qq⟩ | ⟨go, Nx, hNx, step⟩
    · refine thnF (T.done (X.blk r2 HB scope ce fp) rfl rfl rfl hc i [] r _ K (fun _ _ => False) IK (hold IK nK) stK stop) fun z r' ⟨hz, IL⟩ => ?_
      subst hz
      have back : Inv X pins σ K r' := IB.call' (ch := fp) IL.os IL.base IL.hok IL.bare fun b hb => by
        obtain ⟨_, f1, f2, f3, f4, f5⟩ := (fB b hb).1
        exact ⟨f3, f1, f4, f5⟩
      have hnone : K r2.heap.objs.size = none := by rw [← cl]; exact IL.free
      obtain ⟨m', hns, _⟩ := IL.loc
      have hns : r'.heap.Ns ce.locals m' := hns
      rw [cl] at hns
      obtain ⟨_, f1, f2, f3, f4, f5⟩ := IB.fpOk (Nat.le_refl _) hnone
      exact ⟨m', hns, fun h'' sb => ⟨.ref D, K, back.turned (t' := r'.toks) (fun b o hb e => (sb.2 b hb).trans e) hnone f1 f3 f4 f5, rfl, qq⟩⟩
    · refine thnF (T.item (X.blk r2 HB scope ce fp) rfl rfl rfl hc i [] r _ K (fun _ _ => False) IK (hold IK nK) stK go) fun z r' ⟨u, hz, q6⟩ => ?_
      subst hz
      refine thnF q6 fun _ r4 ⟨x, K4, I4, rel4, y4, st4, n4⟩ => ?_
      have P4 := I4.pinned (hold I4 n4) (T.obj _ _ st4)
      -- the turn's end, whatever came of it
      have fin : ∀ {τ : L2.St} {r' : Shared} {K' : Hp}, wipe τ (own.map (·.2)) = wipe (wipe σ (own.map (·.2))) (own.map (·.2)) ∨ wipe τ (own.map (·.2)) = wipe σ (own.map (·.2)) → Inv (X.blk r2 HB scope ce fp) ([] ++ pinsAt fp r4.heap) τ K' r' → Nx K' → wipe τ (own.map (·.2)) = wipe σ (own.map (·.2)) → ∃ m', m' < m ∧ Hd m' r' := fun {τ r' K'} _ I' nx hw => by
        obtain ⟨m', lt, w'⟩ := hNx K' nx
        have still : ∀ b ∈ fp, ∀ o, r4.heap.get? b = some o → r'.heap.get? b = some o ∧ K' b = none := fun b hb o e =>
          have z := I'.pin (b, o) (List.mem_append_right _ (List.mem_append_right _ (mem_pinsAt hb e)))
          ⟨z.1, z.2.1⟩
        refine ⟨m', lt, i + 1, K', (I'.unpinned (pins := [])).weak (by rw [← hw, wipe_length]) (fun j v e => ?_), T.keep _ _ _ st4 fun b hb o e => (still b hb o e).1, fun b hb => ?_, w'⟩
        · rw [← hw] at e
          exact (wipe_some e).1
        · obtain ⟨o, e, _⟩ := T.obj _ _ st4 b hb
          exact (still b hb o e).2
      refine thnF (pg.run _ r4 _ K4 x u _ P4 rel4 (step x K4 y4)) fun _ r5 ⟨τ, K5, I5, hw5, q5⟩ => ?_
      refine thnF (pt.run _ r5 τ K5 _ I5 q5) fun b r6 ⟨K6, I6, q6⟩ => ?_
      rcases Bool.eq_false_or_eq_true b with rfl | rfl
      · simp only [if_true] at q6 ⊢
        refine thnF (pe.run _ r6 τ K6 _ I6 q6) fun z r7 ⟨yv, K7, I7, rel7, a, k, L, ey, hk, hD7, hL7, few, nx⟩ => ?_
        subst ey
        cases (show z = Value.ref a from rel7)
        exact addT (X := X.blk r2 HB scope ce fp) I7 hD7 hL7 hk hu few fun L' r8 c1 c2 I8 => fin (.inr hw5) I8 (nx L' c1 c2) hw5
      · simp only [Bool.false_eq_true, if_false] at q6 ⊢
        exact fin (.inr hw5) I6 q6 hw5
  have goal : codeAny (model X.prog X.w) X.A (.compStart (.SetComp elt [⟨tg, iter, ifs, 0⟩] scope pos) 0 (.ref it) (.ref D) ce) (compPost (model X.prog X.w) X.A X.xe none (fun v s' => ∃ u H', Inv X pins σ H' s' ∧ RelV u v ∧ Q u H') (.ref D) r2.heap.objs.size) r3 :=
    PpSet.codeAny_compStart_set loop (T.self X.A 0 _ _ _ st3 loop)
  subst hce
  subst hr3
  show codeAny _ _ (.compStart _ 0 (.ref it) (.ref D) (compEnvC scope _ r2.heap.objs.size X.env)) _ _
  exact goal
theorem pe_scT {elt tg iter : Expr} {ifs : List Expr} {scope : Scope} {own : List (PySem.Str × Nat)} {pos : Pos} {wi : TI} {g : TG} {tt : TT} {te : TE} (hu : X.A.units + 3 < cLine) (hc : X.calm = true) (hN : X.N.Nodup) (hi : PI X tg iter wi) (ok : BlkOk X.N X.env.scope scope own)
    (hg : ∀ r K C cl fp, PG (X.blk r K scope (compEnvC scope cl C X.env) fp) tg g) (ht : ∀ r K C cl fp, PTs (X.blk r K scope (compEnvC scope cl C X.env) fp) ifs tt) (he : ∀ r K C cl fp, PE (X.blk r K scope (compEnvC scope cl C X.env) fp) elt te)
    (hs : ∀ x, foldedSetIterable iter X.env x = pure x := by intro _; rfl) : PE X (.SetComp elt [⟨tg, iter, ifs, 0⟩] scope pos) (tScT X.K X.prog X.w wi g tt te (own.map (·.2))) :=
  ⟨fun pins s σ H Q I h => thn (scT_run hc hN hu I hi ok hg ht he hs h) fun v s' ⟨u, H', I', r, q⟩ => ⟨u, H', I', r, q⟩⟩
/-- over a list or a tuple that the block leaves as it is -/
theorem scT_seq {K : PySem.W.Frag} {P : Program} {w : World} {J : It} {n : Nat} {at_ : Nat → V → Prop} {g : TG} {tt : TT} {te : TE} {vs : List Nat} {σ : L2.St} {H1 : Hp} {D : Addr} {Fin : Hp → Prop} (Pv : Nat → Hp → Prop) (h0 : Pv 0 (upd H1 D (SetTO P w D [])))
    (hJ : ∀ i H, i < n → Pv i H → J.go i H ∧ ∀ x H', J.yld i H x H' → at_ i x ∧ H' = H) (hE : ∀ H, Pv n H → J.stop n H ∧ Fin H)
    (hs : ∀ i x H, i < n → at_ i x → Pv i H → g x (wipe σ vs) H fun σ2 H2 => wipe σ2 vs = wipe σ vs ∧ tt σ2 H2 fun b H3 => if b = true then te σ2 H3 fun y H4 => addStep K P w D y H4 (Pv (i + 1)) else Pv (i + 1) H3) :
    ∃ W : Nat → Nat → Hp → Prop, (∃ m, W 0 m (upd H1 D (SetTO P w D []))) ∧ turnT K P w g tt te vs σ D Fin J W := by
  refine ⟨fun i m H => m = n - i ∧ i ≤ n ∧ Pv i H, ⟨n, by simp, Nat.zero_le _, h0⟩, fun i m H ⟨hm, hi, p⟩ => ?_⟩
  subst hm
  by_cases lt : i < n
  · obtain ⟨go, yl⟩ := hJ i H lt p
    refine .inr ⟨go, Pv (i + 1), fun H' p' => ⟨n - (i + 1), by omega, rfl, lt, p'⟩, fun x H' y => ?_⟩
    obtain ⟨a, rfl⟩ := yl x H' y
    exact hs i x _ lt a p
  · have e : i = n := by omega
    subst e
    exact .inl (hE H p)
theorem scT_tup {K : PySem.W.Frag} {P : Program} {w : World} {a : Addr} {xs : List V} {g : TG} {tt : TT} {te : TE} {vs : List Nat} {σ : L2.St} {H1 : Hp} {D : Addr} {Fin : Hp → Prop} (Pv : Nat → Hp → Prop) (h0 : Pv 0 (upd H1 D (SetTO P w D []))) (hl : ∀ i H, i ≤ xs.length → Pv i H → SqT K H a xs)
    (hs : ∀ i x H, xs[i]? = some x → Pv i H → g x (wipe σ vs) H fun σ2 H2 => wipe σ2 vs = wipe σ vs ∧ tt σ2 H2 fun b H3 => if b = true then te σ2 H3 fun y H4 => addStep K P w D y H4 (Pv (i + 1)) else Pv (i + 1) H3) (hE : ∀ H, Pv xs.length H → Fin H) :
    ∃ W : Nat → Nat → Hp → Prop, (∃ m, W 0 m (upd H1 D (SetTO P w D []))) ∧ turnT K P w g tt te vs σ D Fin (Itt K a) W :=
  scT_seq (n := xs.length) (at_ := fun i x => xs[i]? = some x) Pv h0 (fun i H lt p => ⟨⟨xs, xs[i], hl i H (Nat.le_of_lt lt) p, List.getElem?_eq_getElem lt⟩, fun x H' y => by
    obtain ⟨e, y⟩ := y
    exact ⟨y xs (hl i H (Nat.le_of_lt lt) p), e⟩⟩) (fun H p => ⟨⟨xs, hl _ H (Nat.le_refl _) p, Nat.le_refl _⟩, hE H p⟩) fun i x H lt e p => hs i x H e p
end
end GE

set_option Elab.async false
set_option linter.all false
set_option maxRecDepth 100000
set_option maxHeartbeats 4000000
namespace Mw
open PySem PySem.Spec PyProof.Rows L2 GE
/-! ### papers -/
abbrev Pap := List (List Int × Int)
def intsV (ns : List Int) : List V := ns.map V.int
theorem inV_ints (a : Int) : ∀ f : List Int, inV (.int a) (intsV f) = decide (a ∈ f)
  | [] => rfl
  | x :: f => by
    have ih := inV_ints a f
    unfold inV intsV at ih ⊢
    rw [List.map_cons, List.any_cons, ih]
    by_cases e : x = a
    · subst e; simp [eqV]
    · have e2 : ¬ a = x := fun z => e z.symm
      simp [eqV, e, e2]
theorem flat_ints (f : List Int) : (intsV f).all flatV = true := by
  unfold intsV; rw [List.all_map]; exact List.all_eq_true.mpr fun _ _ => rfl
def openB (ps : List Pr) (ns : List Int) : Bool := ps.any fun q => decide ((q.1 : Int) ∈ ns) != decide ((q.2 : Int) ∈ ns)
def ascB (ns : List Int) : Bool := (List.range (ns.length - 1)).all fun k => decide (ns.getD k 0 < ns.getD (k + 1) 0)
def setB (n : Nat) (ns : List Int) : Bool := !ns.isEmpty && ascB ns && decide (0 ≤ ns.getD 0 0) && decide (ns.getD (ns.length - 1) 0 < n)
def formB (n : Nat) (R : Pap) : Bool := decide (R.map (·.1)).Nodup && R.all fun r => setB n r.1 && decide (0 < r.2)
def crB (w : Wy) (ns : List Int) : Bool := decide ((w.1 : Int) ∈ ns) != decide ((w.2.1 : Int) ∈ ns)
def loadQ (w : Wy) (R : Pap) : Int := ((R.filter fun r => crB w r.1).map (·.2)).sum
def bearB (ws : Wl) (R : Pap) (D : Int) : Bool := ws.all fun w => !decide ((w.2.2 : Int) * D < loadQ w R)
def papB (n : Nat) (ws : Wl) (ps : List Pr) (R : Pap) (D : Int) : Bool := formB n R && (R.all fun r => openB ps r.1) && bearB ws R D
def RowP (K : PySem.W.Frag) (H : Hp) (r : List Int × Int) (D : Int) (v : V) : Prop := ∃ (x b : Addr) (fv : V), v = .ref x ∧ SqT K H x [.ref b, fv] ∧ SqT K H b (intsV r.1) ∧ FrQ K H r.2 D fv
theorem RowP.x {K : PySem.W.Frag} {T : List Addr} {H H' : Hp} {r : List Int × Int} {D : Int} {v : V} (h : RowP K H r D v) (e : Ext T noM H H') : RowP K H' r D v := by
  obtain ⟨x, b, fv, rfl, h1, h2, h3⟩ := h
  exact ⟨x, b, fv, rfl, SqT.x h1 e fun z => z, SqT.x h2 e fun z => z, h3.x e⟩
structure PapL (K : PySem.W.Frag) (H : Hp) (R : Pap) (D : Int) (rows : List V) : Prop where
  len : rows.length = R.length
  at_ : ∀ (i : Nat) (r : List Int × Int), R[i]? = some r → ∃ v, rows[i]? = some v ∧ RowP K H r D v
theorem PapL.x {K : PySem.W.Frag} {T : List Addr} {H H' : Hp} {R : Pap} {D : Int} {rows : List V} (h : PapL K H R D rows) (e : Ext T noM H H') : PapL K H' R D rows :=
  ⟨h.len, fun i r hr => by obtain ⟨v, q1, q2⟩ := h.at_ i r hr; exact ⟨v, q1, q2.x e⟩⟩
theorem PapL.row {K : PySem.W.Frag} {H : Hp} {R : Pap} {D : Int} {rows : List V} (h : PapL K H R D rows) {i : Nat} {x : V} (hx : rows[i]? = some x) : ∃ (hi : i < R.length), RowP K H R[i] D x := by
  have hi : i < R.length := by have := (List.getElem?_eq_some_iff.mp hx).1; rw [h.len] at this; exact this
  obtain ⟨v, q1, q2⟩ := h.at_ i R[i] (List.getElem?_eq_getElem hi)
  rw [hx] at q1
  obtain rfl := Option.some.inj q1
  exact ⟨hi, q2⟩
def PapV (K : PySem.W.Frag) (H : Hp) (R : Pap) (D : Int) (v : V) : Prop := ∃ a rows, v = .ref a ∧ SqT K H a rows ∧ PapL K H R D rows
structure PapB (R : Pap) (D : Int) (B : Nat) : Prop where
  d0 : 0 < D
  dB : D.natAbs < 2 ^ B
  uB : absS (R.map (·.2)) < 2 ^ B
  b0 : 0 < B
  b9 : B ≤ 4000
  n6 : R.length ≤ 60
  ns : ∀ r ∈ R, r.1.length ≤ 1000
def spPartsQ (K : PySem.W.Frag) (T : List Addr) : Sp := fun vs H Q _ => ∃ (gt : Addr) (g : List Int) (pz : V) (ps : List Pr), vs = [.ref gt, pz] ∧ SqT K H gt (intsV g) ∧ Rp H (pairsD ps) pz ∧ ps.length ≤ 6 ∧ Wd T H ∧
  ∀ H', Ext T noM H H' → Q (.bl (openB ps g)) H'
def spIsSet (K : PySem.W.Frag) (T : List Addr) : Sp := fun vs H Q _ => ∃ (net : V) (b : Addr) (n : Nat) (ws : Wl) (ns : List Int), vs = [net, .ref b] ∧ Wf n ws ∧ Rp H (netD n ws) net ∧ SqT K H b (intsV ns) ∧ ns.length ≤ 1000 ∧ Wd T H ∧ ∀ H', Ext T noM H H' → Q (.bl (setB n ns)) H'
def spForm (K : PySem.W.Frag) (T : List Addr) : Sp := fun vs H Q _ => ∃ (net pv : V) (n : Nat) (ws : Wl) (R : Pap) (D : Int) (B : Nat), vs = [net, pv] ∧ Wf n ws ∧ Rp H (netD n ws) net ∧ PapV K H R D pv ∧ PapB R D B ∧ Wd T H ∧ ∀ H', Ext T noM H H' → Q (.bl (formB n R)) H'
def spBears (K : PySem.W.Frag) (T : List Addr) : Sp := fun vs H Q _ => ∃ (wv pv : V) (w : Wy) (R : Pap) (D : Int) (B : Nat), vs = [wv, pv] ∧ Rp H (wayD w) wv ∧ 1 ≤ w.2.2 ∧ w.2.2 ≤ 10000 ∧ PapV K H R D pv ∧ PapB R D B ∧ ∀ H', Ext T noM H H' → Q (.bl (!decide ((w.2.2 : Int) * D < loadQ w R))) H'
def spAllBear (K : PySem.W.Frag) (T : List Addr) : Sp := fun vs H Q _ => ∃ (net pv : V) (n : Nat) (ws : Wl) (R : Pap) (D : Int) (B : Nat), vs = [net, pv] ∧ Wf n ws ∧ Rp H (netD n ws) net ∧ PapV K H R D pv ∧ PapB R D B ∧ Wd T H ∧ ∀ H', Ext T noM H H' → Q (.bl (bearB ws R D)) H'
def spIsPaper (K : PySem.W.Frag) (T : List Addr) : Sp := fun vs H Q _ => ∃ (net pz pv : V) (n : Nat) (ws : Wl) (ps : List Pr) (R : Pap) (D : Int) (B : Nat), vs = [net, pz, pv] ∧ Wf n ws ∧ Rp H (netD n ws) net ∧ Rp H (pairsD ps) pz ∧ ps.length ≤ 6 ∧ PapV K H R D pv ∧ PapB R D B ∧ Wd T H ∧ ∀ H', Ext T noM H H' → Q (.bl (papB n ws ps R D)) H'
/-! ### different sets -/
theorem nodup_len {α : Type} [DecidableEq α] : ∀ {l m : List α}, l.Nodup → (∀ x ∈ l, x ∈ m) → l.length ≤ m.length
  | [], m, _, _ => Nat.zero_le _
  | x :: l, m, h, hs => by
    obtain ⟨h1, h2⟩ := List.nodup_cons.mp h
    have hx : x ∈ m := hs x List.mem_cons_self
    have := nodup_len (m := m.erase x) h2 fun y hy => (List.mem_erase_of_ne (fun e => h1 (by rw [← e]; exact hy))).mpr (hs y (List.mem_cons_of_mem _ hy))
    rw [List.length_erase_of_mem hx] at this
    have h0 : 0 < m.length := List.length_pos_of_mem hx
    rw [List.length_cons]; omega
theorem nodup_back {α : Type} [DecidableEq α] : ∀ {l m : List α}, l.Nodup → (∀ x ∈ l, x ∈ m) → m.length ≤ l.length → m.Nodup
  | [], m, _, _, hl => by rw [List.eq_nil_of_length_eq_zero (Nat.le_zero.mp hl)]; exact List.nodup_nil
  | x :: l, m, h, hs, hl => by
    obtain ⟨h1, h2⟩ := List.nodup_cons.mp h
    have hx : x ∈ m := hs x List.mem_cons_self
    have h0 : 0 < m.length := List.length_pos_of_mem hx
    have hsub : ∀ y ∈ l, y ∈ m.erase x := fun y hy => (List.mem_erase_of_ne (fun e => h1 (by rw [← e]; exact hy))).mpr (hs y (List.mem_cons_of_mem _ hy))
    have he := List.length_erase_of_mem hx
    have hn := nodup_back h2 hsub (by rw [he]; rw [List.length_cons] at hl; omega)
    have hnx : x ∉ m.erase x := fun z => by
      have := nodup_len (l := x :: l) (m := m.erase x) h fun y hy => by
        rcases List.mem_cons.mp hy with q | q
        · rw [q]; exact z
        · exact hsub y q
      rw [he, List.length_cons] at this
      rw [List.length_cons] at hl
      omega
    exact (List.perm_cons_erase hx).nodup_iff.mpr (List.nodup_cons.mpr ⟨hnx, hn⟩)
theorem nodup_iff_len {α : Type} [DecidableEq α] {l m : List α} (h : l.Nodup) (hs : ∀ x, x ∈ l ↔ x ∈ m) : l.length = m.length ↔ m.Nodup :=
  ⟨fun e => nodup_back h (fun x hx => (hs x).mp hx) (by omega), fun hm => Nat.le_antisymm (nodup_len h fun x hx => (hs x).mp hx) (nodup_len hm fun x hx => (hs x).mpr hx)⟩
theorem range_all_succ (f : Nat → Bool) (n : Nat) : (List.range (n + 1)).all f = ((List.range n).all f && f n) := by
  rw [List.range_succ, List.all_append]; simp
theorem take_all {α : Type} {l : List α} {i : Nat} {x : α} (h : l[i]? = some x) (f : α → Bool) : (l.take (i + 1)).all f = ((l.take i).all f && f x) := by
  rw [take_succ' h, List.all_append]; simp
theorem intsV_get {ns : List Int} {i : Nat} (h : i < ns.length) : (intsV ns)[i]? = some (.int (ns.getD i 0)) := by
  unfold intsV
  rw [List.getElem?_map, List.getElem?_eq_getElem h, List.getD_eq_getElem?_getD, List.getElem?_eq_getElem h]; rfl
theorem rowsQ_of {K : PySem.W.Frag} {H : Hp} {R : Pap} {D : Int} {rows : List V} (h : PapL K H R D rows) : RowsQ K H (R.map (·.2)) D rows := by
  refine ⟨by rw [h.len, List.length_map], fun i u hu => ?_⟩
  rw [List.getElem?_map] at hu
  cases e : R[i]? with
  | none => rw [e] at hu; cases hu
  | some r =>
    rw [e] at hu
    obtain rfl := Option.some.inj hu
    obtain ⟨v, q1, x, b, fv, rfl, q2, q3, q4⟩ := h.at_ i r e
    exact ⟨_, q1, x, .ref b, fv, rfl, q2, q4⟩
theorem absS_filter (f : (List Int × Int) → Bool) : ∀ R : Pap, absS ((R.filter f).map (·.2)) ≤ absS (R.map (·.2))
  | [] => Nat.le_refl _
  | r :: R => by
    have ih := absS_filter f R
    unfold absS at *
    rw [List.filter_cons]
    split <;> simp only [List.map_cons, List.sum_cons] <;> omega
section
variable {P : Program} {w : World} {K : PySem.W.Frag} {mg : Str → Option Value} {base : Heap} {T : List Addr} {aC : Addr}
end
end Mw

set_option Elab.async false
set_option linter.all false
set_option maxRecDepth 100000
set_option maxHeartbeats 4000000
namespace Mw
open PySem PySem.Spec PyProof.Rows L2 GE
def jn1 (ws : List Wy) (cs : List Nat) (p : Pr) : Bool := decide (hom ws cs p.1 = hom ws cs p.2)
def jn (ws : List Wy) (cs : List Nat) (ps : List Pr) : Bool := ps.all (jn1 ws cs)
theorem all_take {α : Type} {f : α → Bool} {l : List α} {i : Nat} {x : α} (hx : l[i]? = some x) (hb : (l.take i).all f = true) (h : f x = true) : (l.take (i + 1)).all f = true := by
  rw [take_succ' hx, List.all_append, hb]; simp [h]
theorem all_no {α : Type} {f : α → Bool} {l : List α} {i : Nat} {x : α} (hx : l[i]? = some x) (h : f x = false) : l.all f = false :=
  List.all_eq_false.mpr ⟨x, List.mem_of_getElem? hx, by rw [h]; exact Bool.false_ne_true⟩
theorem nats_at {cs : List Nat} {j : Nat} {x : V} (hx : (cs.map fun (c : Nat) => V.int (c : Int))[j]? = some x) : ∃ c, cs[j]? = some c ∧ x = V.int ((c : Nat) : Int) := by
  rw [List.getElem?_map] at hx
  cases e : cs[j]? with
  | none => rw [e] at hx; cases hx
  | some c => rw [e] at hx; exact ⟨c, rfl, (Option.some.inj hx).symm⟩
/-! ### a group, grown -/
structure Gr (n : Nat) (es : List (Nat × Nat)) (p : Nat) (f : List Nat) : Prop where
  mem : p ∈ f
  nd : f.Nodup
  ok : ∀ x ∈ f, x < n ∧ Cn es p x
theorem Gr.snoc {n : Nat} {es : List (Nat × Nat)} {p y : Nat} {f : List Nat} (g : Gr n es p f) (hy : y ∉ f) (hn : y < n) (hc : Cn es p y) : Gr n es p (f ++ [y]) :=
  ⟨List.mem_append_left _ g.mem, by rw [List.nodup_append]; exact ⟨g.nd, nd1 _, fun a ha b hb z => hy (by rw [← List.mem_singleton.mp hb, ← z]; exact ha)⟩,
   fun x hx => by rcases List.mem_append.mp hx with h | h
                  · exact g.ok x h
                  · rw [List.mem_singleton.mp h]; exact ⟨hn, hc⟩⟩
theorem Gr.len {n : Nat} {es : List (Nat × Nat)} {p : Nat} {f : List Nat} (g : Gr n es p f) : f.length ≤ n := nodup_le g.nd fun x hx => (g.ok x hx).1
def Clo (ws : List Wy) (cs : List Nat) (f : List Nat) : Prop := ∀ c ∈ cs, ((wyAt ws c).1 ∈ f ↔ (wyAt ws c).2.1 ∈ f)
/-- a choice in a tuple or a list -/
def ChV (H : Hp) (cs : List Nat) (v : V) : Prop := ∃ a, v = .ref a ∧ (H a = some (.tup (natsV cs)) ∨ H a = some (.lst (natsV cs)))
theorem ChV.x {T : List Addr} {H H' : Hp} {cs : List Nat} {v : V} (h : ChV H cs v) (e : Ext T noM H H') : ChV H' cs v := by
  obtain ⟨a, rfl, h | h⟩ := h
  · exact ⟨a, rfl, .inl (e.tup (fun z => z) h)⟩
  · exact ⟨a, rfl, .inr (e.lst (fun z => z) h)⟩
structure TaskL (H : Hp) (n : Nat) (ws : List Wy) (cs : List Nat) (net ch : V) : Prop where
  W : Wf n ws
  lt : ∀ c ∈ cs, c < ws.length
  ln : cs.length ≤ 24
  net : Rp H (netD n ws) net
  ch : ChV H cs ch
theorem TaskL.x {T : List Addr} {H H' : Hp} {n : Nat} {ws : List Wy} {cs : List Nat} {net ch : V} (t : TaskL H n ws cs net ch) (e : Ext T noM H H') : TaskL H' n ws cs net ch := ⟨t.W, t.lt, t.ln, Rp.x e t.net, t.ch.x e⟩
theorem Task.l {H : Hp} {n : Nat} {ws : List Wy} {cs : List Nat} {net ch : V} (t : Task H n ws cs net ch) : TaskL H n ws cs net ch :=
  ⟨t.W, t.C.lt, Nat.le_trans t.C.len t.W.ln, t.net, by obtain ⟨a, rfl, h⟩ := ch_at t.ch; exact ⟨a, rfl, .inl h⟩⟩
def prP (p : Pr) : PyData := .tuple [.int (p.1 : Nat), .int (p.2 : Nat)]
theorem prP_shaped (p : Pr) : SeqAt.shaped (prP p) = true := by
  unfold SeqAt.shaped prP; simp [PyData.canLay0, PyData.canLayAll0, PyData.depth, PyData.depthAll]
theorem prP_all : ∀ ps : List Pr, PyData.canLayAll0 (ps.map prP) = true ∧ PyData.depthAll (ps.map prP) ≤ 1
  | [] => ⟨rfl, Nat.zero_le _⟩
  | p :: r => by
    obtain ⟨h1, h2⟩ := prP_all r
    simp only [List.map_cons, PyData.canLayAll0, PyData.depthAll, h1, Bool.and_true]
    exact ⟨by simp [prP, PyData.canLay0, PyData.canLayAll0], by simp [prP, PyData.depth, PyData.depthAll]; omega⟩
theorem prPs_shaped (ps : List Pr) : SeqAt.shaped (.list (ps.map prP)) = true := by
  obtain ⟨h1, h2⟩ := prP_all ps
  show (PyData.canLayAll0 (ps.map prP) && decide (PyData.depthAll (ps.map prP) + 1 ≤ 64)) = true
  rw [h1, Bool.true_and, decide_eq_true_eq]
  omega
theorem dp_pair {K : PySem.W.Frag} {H : Hp} {p : Pr} {v : V} (h : Rp H (pairD p) v) : Dp K H v (prP p) := by
  obtain ⟨a, rfl, ha⟩ := pair_at h
  exact .tup (SqT.of ha) (.cons (.int _) (.cons (.int _) .nil))
theorem dp_pairs {K : PySem.W.Frag} {H : Hp} : ∀ {ps : List Pr} {vs : List V}, RpL H (ps.map pairD) vs → DpAll K H vs (ps.map prP)
  | [], vs, h => by rw [h.nil]; exact .nil
  | p :: r, vs, h => by
    obtain ⟨v, u, rfl, h1, h2⟩ := h.cons
    exact .cons (dp_pair h1) (dp_pairs h2)
def spLGroup (T : List Addr) : Sp := fun vs H Q _ => ∃ (net ch : V) (n : Nat) (ws : List Wy) (cs : List Nat) (p : Nat), vs = [net, ch, .int (p : Nat)] ∧ TaskL H n ws cs net ch ∧ p < n ∧ ∀ a H', H' a = some (.tup (natsV (cls (hom ws cs) n p))) → Ext T noM H H' → Q (.ref a) H'
def spLPairs (T : List Addr) : Sp := fun vs H Q _ => ∃ (p s : Addr) (n : Nat) (most : Int), vs = [.ref p, .int (n : Nat), .int most] ∧ PoolAt H p s ∧ 1 ≤ n ∧ n ≤ 12 ∧ 0 ≤ most ∧ most ≤ 6 ∧ ∀ v ps H', PsOk n ps → Rp H' (pairsD ps) v → PoolAt H' p s → Ext T (atP p) H H' → Q v H'
def spLJoins (T : List Addr) : Sp := fun vs H Q _ => ∃ (net pz ch : V) (n : Nat) (ws : List Wy) (cs : List Nat) (ps : List Pr), vs = [net, pz, ch] ∧ TaskL H n ws cs net ch ∧ Rp H (pairsD ps) pz ∧ PsOk n ps ∧ ∀ H', Ext T noM H H' → Q (.bl (jn ws cs ps)) H'
/-- what is known of the list while it grows, in one turn -/
structure Grow (T : List Addr) (H H' : Hp) (l n : Nat) (ws : List Wy) (cs : List Nat) (p j : Nat) (f0 f : List Nat) : Prop where
  g : Gr n (edg ws cs) p f
  hl : H' l = some (.lst (natsV f))
  fr : H l = none
  e : Ext T noM H H'
  st : (f = f0 ∧ Clo ws (cs.take j) f) ∨ (f0.length < f.length ∧ ¬ Clo ws cs f0)
theorem Grow.push {T : List Addr} {H H' : Hp} {l n : Nat} {ws : List Wy} {cs : List Nat} {p j k : Nat} {f0 f : List Nat} (G : Grow T H H' l n ws cs p j f0 f) {c y : Nat} (hc : c ∈ cs) (hy : y ∉ f) (hn : y < n) (hcn : Cn (edg ws cs) p y)
    (hd : ¬ ((wyAt ws c).1 ∈ f ↔ (wyAt ws c).2.1 ∈ f)) : Grow T H (upd H' l (.lst (natsV f ++ [V.int (y : Nat)]))) l n ws cs p k f0 (f ++ [y]) := by
  refine ⟨G.g.snoc hy hn hcn, by rw [upd_same]; unfold natsV; rw [List.map_append]; rfl, G.fr, G.e.mut (.inl G.fr) G.hl ltbl, .inr ?_⟩
  rcases G.st with ⟨rfl, _⟩ | ⟨h1, h2⟩
  · exact ⟨by rw [List.length_append, List.length_singleton]; omega, fun z => hd (z c hc)⟩
  · exact ⟨by rw [List.length_append, List.length_singleton]; omega, h2⟩
section
variable {P : Program} {w : World} {K : PySem.W.Frag} {mg : Str → Option Value} {base : Heap} {T : List Addr}
end
end Mw

set_option Elab.async false
set_option linter.all false
set_option maxRecDepth 100000
set_option maxHeartbeats 4000000
namespace Mw
open PySem PySem.Spec PyProof.Rows L2 GE
def spLOpen (T : List Addr) : Sp := fun vs H Q _ => ∃ (gt : Addr) (g : List Nat) (pz : V) (ps : List Pr), vs = [pz, .ref gt] ∧ H gt = some (.tup (natsV g)) ∧ Rp H (pairsD ps) pz ∧ ps.length ≤ 6 ∧
  ∀ H', Ext T noM H H' → Q (.bl (ps.any fun q => decide (q.1 ∈ g) != decide (q.2 ∈ g))) H'
/-- a list of groups -/
def GrL (H : Hp) (n : Nat) (h : Nat → Nat) (R : List Nat) (l : Addr) : Prop := ∃ vs : List V, H l = some (.lst vs) ∧ vs.length = R.length ∧ ∀ (i r : Nat), R[i]? = some r → ∃ t : Addr, vs[i]? = some (V.ref t) ∧ H t = some (.tup (natsV (cls h n r)))
theorem GrL.x {T : List Addr} {H H' : Hp} {n : Nat} {h : Nat → Nat} {R : List Nat} {l : Addr} (g : GrL H n h R l) (e : Ext T noM H H') : GrL H' n h R l := by
  obtain ⟨vs, h1, h2, h3⟩ := g
  exact ⟨vs, e.lst (fun z => z) h1, h2, fun i r q => by obtain ⟨t, q1, q2⟩ := h3 i r q; exact ⟨t, q1, e.tup (fun z => z) q2⟩⟩
def sidesF (ws : Wl) (n : Nat) (h : Nat → Nat) (c : Nat) : List Nat := (reps h n).filter fun r => decide (h (way ws c).1 = r) || decide (h (way ws c).2.1 = r)
def sides (ws : Wl) (n : Nat) (h : Nat → Nat) (c : Nat) : List Nat := if (sidesF ws n h c).length = 2 then sidesF ws n h c else []
def spLSides (T : List Addr) : Sp := fun vs H Q _ => ∃ (xa l : Addr) (n c : Nat) (ws : Wl) (h : Nat → Nat), vs = [.ref xa, .ref l] ∧ H xa = some (.tup [.int (way ws c).1, .int (way ws c).2.1, .int (way ws c).2.2]) ∧ (way ws c).1 < n ∧ (way ws c).2.1 < n ∧ n ≤ 12 ∧ GrL H n h (reps h n) l ∧
  ∀ r H', GrL H' n h (sides ws n h c) r → H r = none → Ext T noM H H' → Q (.ref r) H'
section
variable {P : Program} {w : World} {K : PySem.W.Frag} {mg : Str → Option Value} {base : Heap} {T : List Addr} {aC : Addr}
end
end Mw

set_option Elab.async false
set_option linter.all false
set_option maxRecDepth 100000
set_option maxHeartbeats 4000000
namespace Mw
open PySem PySem.Spec PyProof.Rows L2 GE
def widK (wid : List (List Nat × Int)) : List (List Key × V) := wid.map fun kw => (keyOf kw.1, V.int (kw.2 * 268435456))
def xl (ws : Wl) (c : Nat) (wid : List (List Nat × Int)) : Int := (wid.map fun kw => if (decide ((way ws c).1 ∈ kw.1) != decide ((way ws c).2.1 ∈ kw.1)) = true then kw.2 else 0).sum
theorem widK_val {wid : List (List Nat × Int)} (nd : (wid.map (·.1)).Nodup) {i : Nat} {kw : List Nat × Int} (h : wid[i]? = some kw) : valV (widK wid) (keyOf kw.1) = some (.int (kw.2 * 268435456)) := by
  induction wid generalizing i with
  | nil => simp at h
  | cons a l ih =>
    obtain ⟨n1, n2⟩ := List.nodup_cons.mp nd
    show valV ((keyOf a.1, V.int (a.2 * 268435456)) :: widK l) _ = _
    cases i with
    | zero =>
      have : a = kw := by simpa using h
      subst this
      exact valV_pos rfl
    | succ i =>
      have h' : l[i]? = some kw := by simpa using h
      rw [valV_neg (fun z => n1 (by
        have e : a.1 = kw.1 := keyOf_inj z
        show a.1 ∈ _
        rw [e]; exact List.mem_map_of_mem (List.mem_of_getElem? h')))]
      exact ih n2 h'
def spLLack (T : List Addr) : Sp := fun vs H Q _ => ∃ (xa d : Addr) (c : Nat) (ws : Wl) (wid : List (List Nat × Int)), vs = [.ref xa, .ref d] ∧ H xa = some (.tup [.int (way ws c).1, .int (way ws c).2.1, .int (way ws c).2.2]) ∧ (way ws c).2.2 ≤ 10000 ∧ H d = some (.dT (widK wid)) ∧ (wid.map (·.1)).Nodup ∧ wid.length ≤ 300 ∧
  ∀ H', Ext T noM H H' → Q (.int (((way ws c).2.2 : Int) * 1099511627776 - xl ws c wid * 268435456)) H'
section
variable {P : Program} {w : World} {K : PySem.W.Frag} {mg : Str → Option Value} {base : Heap} {T : List Addr} {aC : Addr}
end
end Mw

set_option Elab.async false
set_option linter.all false
set_option maxRecDepth 100000
set_option maxHeartbeats 4000000
namespace Mw
open PySem PySem.Spec PyProof.Rows L2 GE
theorem xl_eq {ws : Wl} {c : Nat} {h : Nat → Nat} (hne : h (way ws c).1 ≠ h (way ws c).2.1) : ∀ {wid : List (List Nat × Int)}, (∀ kw ∈ wid, ∀ x ∈ kw.1, ∀ y ∈ kw.1, h x = h y) → xl ws c wid = wsum (way ws c).1 wid + wsum (way ws c).2.1 wid
  | [], _ => rfl
  | (k, s) :: r, hk => by
    have ih := xl_eq hne (wid := r) fun kw q => hk kw (List.mem_cons_of_mem _ q)
    have h0 := hk (k, s) List.mem_cons_self
    have e1 : xl ws c ((k, s) :: r) = (if (decide ((way ws c).1 ∈ k) != decide ((way ws c).2.1 ∈ k)) = true then s else 0) + xl ws c r := by unfold xl; rw [List.map_cons, List.sum_cons]
    have e2 : ∀ p, wsum p ((k, s) :: r) = (if p ∈ k then s else 0) + wsum p r := fun p => rfl
    rw [e1, e2, e2, ih]
    by_cases a1 : (way ws c).1 ∈ k
    · have b1 : (way ws c).2.1 ∉ k := fun z => hne (h0 _ a1 _ z)
      rw [if_pos (by rw [decide_eq_true a1, decide_eq_false b1]; rfl), if_pos a1, if_neg b1]; omega
    · by_cases b1 : (way ws c).2.1 ∈ k
      · rw [if_pos (by rw [decide_eq_false a1, decide_eq_true b1]; rfl), if_neg a1, if_pos b1]; omega
      · rw [if_neg (by rw [decide_eq_false a1, decide_eq_false b1]; exact Bool.false_ne_true), if_neg a1, if_neg b1]; omega
theorem GM.lackL {n t : Nat} {ws : Wl} {S : Gs} (W : WsOk n ws) (G : GM n ws t S) {c : Nat} (hc : c < ws.length) (hx : crosses ws S c = true) : ((way ws c).2.2 : Int) * 1099511627776 - xl ws c S.wid * 268435456 = lack ws S c * 268435456 := by
  obtain ⟨w1, w2, _⟩ := W.ok c hc
  have e := xl_eq (of_decide_eq_true hx) (wid := S.wid) fun kw q x hx y hy => ((G.key kw q).1 x hx).2 y hy
  rw [e, ← G.sum _ (Nat.lt_trans w1 w2), ← G.sum _ w2]
  unfold lack; omega
theorem GB.lackL {n t : Nat} {ws : Wl} {S : Gs} (W : WsOk n ws) (G : GB n ws t 300 S) {c : Nat} (hc : c < ws.length) (hx : crosses ws S c = true) : ((way ws c).2.2 : Int) * 1099511627776 - xl ws c S.wid * 268435456 = lack ws S c * 268435456 := by
  obtain ⟨w1, w2, _⟩ := W.ok c hc
  have e := xl_eq (of_decide_eq_true hx) (wid := S.wid) fun kw q x hx y hy => ((G.key kw q).1 x hx).2 y hy
  rw [e, ← G.sum _ (Nat.lt_trans w1 w2), ← G.sum _ w2]
  unfold lack; omega
theorem sides_two {n : Nat} {es : List (Nat × Nat)} {ws : Wl} {h : Nat → Nat} (HM : Hom n es h) {c : Nat} (ha : (way ws c).1 < n) (hb : (way ws c).2.1 < n) : (sidesF ws n h c).length = 2 ↔ h (way ws c).1 ≠ h (way ws c).2.1 := by
  have nd : (sidesF ws n h c).Nodup := (reps_nodup h n).filter _
  have mem : ∀ r, r ∈ sidesF ws n h c ↔ r = h (way ws c).1 ∨ r = h (way ws c).2.1 := fun r => by
    unfold sidesF
    rw [List.mem_filter, mem_reps', Bool.or_eq_true, decide_eq_true_eq, decide_eq_true_eq]
    constructor
    · rintro ⟨_, z | z⟩
      · exact .inl z.symm
      · exact .inr z.symm
    · rintro (z | z)
      · subst z; exact ⟨⟨Nat.lt_of_le_of_lt (HM.le _ ha) ha, HM.idem _ ha⟩, .inl rfl⟩
      · subst z; exact ⟨⟨Nat.lt_of_le_of_lt (HM.le _ hb) hb, HM.idem _ hb⟩, .inr rfl⟩
  constructor
  · intro hl e
    have h2 : (sidesF ws n h c).Perm [h (way ws c).1] := (List.perm_ext_iff_of_nodup nd (nd1 _)).mpr fun r => by rw [mem, List.mem_singleton, e]; simp
    have := h2.length_eq
    rw [hl] at this; cases this
  · intro hne
    have h2 : (sidesF ws n h c).Perm [h (way ws c).1, h (way ws c).2.1] := (List.perm_ext_iff_of_nodup nd (by simp [hne])).mpr fun r => by rw [mem]; simp
    exact h2.length_eq
theorem sides_len {n : Nat} {es : List (Nat × Nat)} {ws : Wl} {S : Gs} (HM : Hom n es S.h) {c : Nat} (ha : (way ws c).1 < n) (hb : (way ws c).2.1 < n) : ((sides ws n S.h c).length = 2 ↔ crosses ws S c = true) := by
  have h2 := sides_two HM ha hb
  unfold sides crosses
  rw [decide_eq_true_eq, ← h2]
  by_cases z : (sidesF ws n S.h c).length = 2
  · rw [if_pos z]
  · rw [if_neg z]; exact ⟨fun y => by simp at y, fun y => absurd y z⟩
/-- what the law keeps of a growth -/
structure LSt (H : Hp) (n : Nat) (ws : Wl) (S : Gs) (net : V) (l d : Addr) : Prop where
  net : Rp H (netD n ws) net
  l : GrL H n S.h (reps S.h n) l
  d : H d = some (.dT (widK S.wid))
  nd : (S.wid.map (·.1)).Nodup
  wl : S.wid.length ≤ 300
theorem LSt.x {T : List Addr} {H H' : Hp} {n : Nat} {ws : Wl} {S : Gs} {net : V} {l d : Addr} (L : LSt H n ws S net l d) (e : Ext T noM H H') : LSt H' n ws S net l d := ⟨Rp.x e L.net, L.l.x e, e.kp _ _ (fun z => z) L.d (fun ps z => nomatch z), L.nd, L.wl⟩
def spLFull (T : List Addr) : Sp := fun vs H Q _ => ∃ (net : V) (l d : Addr) (n t : Nat) (ws : Wl) (S : Gs), vs = [net, .ref l, .ref d] ∧ LSt H n ws S net l d ∧ Wf n ws ∧ GB n ws t 300 S ∧ ∀ H', Ext T noM H H' → Q (firstV ws S) H'
section
variable {P : Program} {w : World} {K : PySem.W.Frag} {mg : Str → Option Value} {base : Heap} {T : List Addr} {aC : Addr}
end
end Mw

set_option Elab.async false
set_option linter.all false
set_option maxRecDepth 100000
set_option maxHeartbeats 4000000
namespace Mw
open PySem PySem.Spec PyProof.Rows L2 GE
theorem op_inDK {X : Cx} {K : PySem.W.Frag} (hu : X.A.units + 65 < cLine) (h : X.K = K := by rfl) : OpR X (compareOp .In) (rInD K) := h ▸ op_inD hu
theorem natDs_list {h : Nat → Nat} {n : Nat} (R : List Nat) : SeqAt.shaped (.list (R.map fun r => natD (cls h n r))) = true := natDs_shaped (h := h) (n := n) R
def waitV : Option Int → V
  | some x => .int (x * 268435456)
  | none => .non
theorem sides_perm {n : Nat} {es : List (Nat × Nat)} {ws : Wl} {S : Gs} (HM : Hom n es S.h) {c : Nat} (ha : (way ws c).1 < n) (hb : (way ws c).2.1 < n) (R : List Nat) : ((sides ws n S.h c).filter fun r => decide (r ∈ R)).length = if crosses ws S c = true then spd ws S R c else 0 := by
  have hl := sides_len (S := S) HM ha hb
  by_cases hx : crosses ws S c = true
  · rw [if_pos hx]
    have hne := of_decide_eq_true hx
    have e : sides ws n S.h c = sidesF ws n S.h c := if_pos ((sides_two HM ha hb).mpr hne)
    have nd : (sidesF ws n S.h c).Nodup := (reps_nodup S.h n).filter _
    have h2 : (sidesF ws n S.h c).Perm [S.h (way ws c).1, S.h (way ws c).2.1] := (List.perm_ext_iff_of_nodup nd (by simp [hne])).mpr fun r => by
      unfold sidesF
      rw [List.mem_filter, mem_reps', Bool.or_eq_true, decide_eq_true_eq, decide_eq_true_eq]
      simp only [List.mem_cons, List.not_mem_nil, or_false]
      constructor
      · rintro ⟨_, z | z⟩
        · exact .inl z.symm
        · exact .inr z.symm
      · rintro (z | z)
        · subst z; exact ⟨⟨Nat.lt_of_le_of_lt (HM.le _ ha) ha, HM.idem _ ha⟩, .inl rfl⟩
        · subst z; exact ⟨⟨Nat.lt_of_le_of_lt (HM.le _ hb) hb, HM.idem _ hb⟩, .inr rfl⟩
    rw [e, (h2.filter _).length_eq]
    unfold spd
    by_cases q1 : S.h (way ws c).1 ∈ R <;> by_cases q2 : S.h (way ws c).2.1 ∈ R <;> simp [q1, q2]
  · rw [if_neg hx]
    have : ¬ (sides ws n S.h c).length = 2 := fun z => hx (hl.mp z)
    have e : sides ws n S.h c = [] := by
      unfold sides at this ⊢
      split
      · rename_i z; rw [if_pos z] at this; exact absurd z this
      · rfl
    rw [e]; rfl
def spLWait (T : List Addr) : Sp := fun vs H Q _ => ∃ (net : V) (l d sl : Addr) (n t : Nat) (ws : Wl) (S : Gs) (R : List Nat), vs = [net, .ref l, .ref d, .ref sl] ∧ LSt H n ws S net l d ∧ Wf n ws ∧ GB n ws t 300 S ∧ t < 12 ∧ GrL H n S.h R sl ∧ (∀ r ∈ R, r < n ∧ S.h r = r) ∧
  ∀ H', Ext T noM H H' → Q (waitV (least ((canW ws S R).map (cand ws S R)))) H'
section
variable {P : Program} {w : World} {K : PySem.W.Frag} {mg : Str → Option Value} {base : Heap} {T : List Addr} {aC : Addr}
end
end Mw

set_option Elab.async false
set_option linter.all false
set_option maxRecDepth 100000
set_option maxHeartbeats 4000000
namespace Mw
open PySem PySem.Spec PyProof.Rows L2 GE
theorem op_notInDTK {X : Cx} {K : PySem.W.Frag} (hu : X.A.units + 65 < cLine) (h : X.K = K := by rfl) : OpR X (compareOp .NotIn) (rInDT K true) := h ▸ op_notInDT hu
/-- the whole numbers of a tuple -/
def keyV (H : Hp) : V → List Int
  | .ref a => match H a with
    | some (.tup xs) => xs.map GE.iv
    | _ => []
  | _ => []
theorem iv_nats (l : List Nat) : (natsV l).map GE.iv = li l := by unfold natsV li; rw [List.map_map]; rfl
theorem keyV_at {H : Hp} {t : Addr} {l : List Nat} (h : H t = some (.tup (natsV l))) : keyV H (.ref t) = li l := by
  show (match H t with | some (.tup xs) => xs.map GE.iv | _ => []) = _
  rw [h]; exact iv_nats l
theorem li_ints (l : List Nat) : (li l).map V.int = natsV l := by unfold natsV li; rw [List.map_map]; rfl
/-- groups put in order -/
theorem sorted_groups {n : Nat} {es : List (Nat × Nat)} {g : Nat → Nat} (HM : Hom n es g) {H : Hp} {L ys : List V} {G : List Nat} (hG : G.Perm (reps g n)) (hl : L.length = G.length)
    (hx : ∀ (m r : Nat), G[m]? = some r → ∃ t : Addr, L[m]? = some (V.ref t) ∧ H t = some (.tup (natsV (cls g n r)))) (p : ys.Perm L) (s : SrtO.Srtd (fun x y => lexL (keyV H x) (keyV H y)) ys) :
    ys.length = (reps g n).length ∧ ∀ (i r : Nat), (reps g n)[i]? = some r → ∃ t : Addr, ys[i]? = some (V.ref t) ∧ H t = some (.tup (natsV (cls g n r))) := by
  have e1 : L.map (keyV H) = G.map fun r => li (cls g n r) := by
    refine List.ext_getElem? fun m => ?_
    rw [List.getElem?_map, List.getElem?_map]
    rcases Nat.lt_or_ge m G.length with h | h
    · obtain ⟨t, q1, q2⟩ := hx m G[m] (List.getElem?_eq_getElem h)
      rw [List.getElem?_eq_getElem h, q1]
      show some (keyV H (.ref t)) = _
      rw [keyV_at q2]; rfl
    · rw [List.getElem?_eq_none h, List.getElem?_eq_none (by rw [hl]; exact h)]; rfl
  have e2 : ys.map (keyV H) = (reps g n).map fun r => li (cls g n r) := by
    refine perm_sorted ((p.map _).trans (by rw [e1]; exact hG.map _)) ?_ (reps_sorted HM)
    rw [List.pairwise_map]
    exact s
  have hlen : ys.length = (reps g n).length := by rw [p.length_eq, hl, hG.length_eq]
  refine ⟨hlen, fun i r hr => ?_⟩
  have hi : i < ys.length := by rw [hlen]; exact (List.getElem?_eq_some_iff.mp hr).1
  have hm : ys[i] ∈ L := p.mem_iff.mp (List.getElem_mem hi)
  obtain ⟨m, hm1, hm2⟩ := List.getElem_of_mem hm
  obtain ⟨t, q1, q2⟩ := hx m (G[m]'(by rw [← hl]; exact hm1)) (List.getElem?_eq_getElem _)
  rw [List.getElem?_eq_getElem hm1, hm2] at q1
  have q3 := Option.some.inj q1
  have e3 := congrArg (fun l => l[i]?) e2
  rw [List.getElem?_map, List.getElem?_map, hr, List.getElem?_eq_getElem hi] at e3
  have e4 : keyV H ys[i] = li (cls g n r) := Option.some.inj e3
  rw [q3, keyV_at q2] at e4
  exact ⟨t, by rw [List.getElem?_eq_getElem hi, q3], by rw [q2, ← li_ints, e4, li_ints]⟩
def spLTog (T : List Addr) : Sp := fun vs H Q _ => ∃ (net : V) (l : Addr) (n c : Nat) (ws : Wl) (S : Gs), vs = [net, .ref l, .int (c : Nat)] ∧ Rp H (netD n ws) net ∧ Wf n ws ∧ (∃ es, Hom n es S.h) ∧ GrL H n S.h (reps S.h n) l ∧ c < ws.length ∧ crosses ws S c = true ∧
  ∀ r H', GrL H' n (relab S.h (way ws c).1 (way ws c).2.1) (reps (relab S.h (way ws c).1 (way ws c).2.1) n) r → H r = none → Ext T noM H H' → Q (.ref r) H'
section
variable {P : Program} {w : World} {K : PySem.W.Frag} {mg : Str → Option Value} {base : Heap} {T : List Addr} {aC : Addr}
end
end Mw

set_option Elab.async false
set_option linter.all false
set_option maxRecDepth 100000
set_option maxHeartbeats 4000000
namespace Mw
open PySem PySem.Spec PyProof.Rows L2 GE
theorem fr0 : frX 0 = 0 ∧ frY 0 = 1 := fr_int 0
theorem frV_zero {K : PySem.W.Frag} {H : Hp} {a : Addr} (h : H a = some (.tup [.int 0, .int 1])) : FrV K H 0 (.ref a) := ⟨a, rfl, by rw [fr0.1, fr0.2]; exact SqT.of h⟩
theorem GrL.t {H H' : Hp} {n : Nat} {h : Nat → Nat} {R : List Nat} {l : Addr} (g : GrL H n h R l) (t : ∀ b xs, H b = some (.tup xs) → H' b = some (.tup xs)) (hl : ∀ xs, H l = some (.lst xs) → H' l = some (.lst xs)) : GrL H' n h R l := by
  obtain ⟨vs, h1, h2, h3⟩ := g
  exact ⟨vs, hl _ h1, h2, fun i r q => by obtain ⟨u, q1, q2⟩ := h3 i r q; exact ⟨u, q1, t _ _ q2⟩⟩
/-- a list of groups, as a tuple -/
theorem GrL.ris {K : PySem.W.Frag} {H : Hp} {n : Nat} {h : Nat → Nat} {R : List Nat} {l a : Addr} {vs : List V} (hv : vs.length = R.length ∧ ∀ (i r : Nat), R[i]? = some r → ∃ t : Addr, vs[i]? = some (V.ref t) ∧ H t = some (.tup (natsV (cls h n r)))) (ha : H a = some (.tup vs)) (ok : ∀ r ∈ R, r < n ∧ h r = r) : RisV K H n h R (.ref a) := ⟨⟨a, vs, rfl, ha, hv.1, hv.2⟩, ok⟩
theorem widK_get {l : List (List Nat × Int)} {k : List Nat} : (valV (widK l) (keyOf k)).getD (.int 0) = .int (widOf l k * 268435456) := by
  induction l with
  | nil => rfl
  | cons a r ih =>
    obtain ⟨j, w⟩ := a
    show (valV ((keyOf j, V.int (w * 268435456)) :: widK r) (keyOf k)).getD (.int 0) = .int ((if j = k then w else widOf r k) * 268435456)
    by_cases q : j = k
    · subst q
      rw [valV_pos rfl, if_pos rfl]; rfl
    · rw [valV_neg (fun z => q (keyOf_inj z)), if_neg q]; exact ih
theorem widK_mem {l : List (List Nat × Int)} {k : List Nat} : (valV (widK l) (keyOf k)).isSome = decide (k ∈ l.map (·.1)) := by
  induction l with
  | nil => rfl
  | cons a r ih =>
    obtain ⟨j, w⟩ := a
    show (valV ((keyOf j, V.int (w * 268435456)) :: widK r) (keyOf k)).isSome = _
    by_cases q : j = k
    · subst q
      rw [valV_pos rfl]; simp
    · rw [valV_neg (fun z => q (keyOf_inj z)), ih]
      have q' : ¬ k = j := fun z => q z.symm
      simp [q']
theorem widK_same {l : List (List Nat × Int)} {k : List Nat} {z : V} (h : k ∉ l.map (·.1)) : ((widK l).map fun kv => if kv.1 = keyOf k then (kv.1, z) else kv) = widK l := by
  induction l with
  | nil => rfl
  | cons a r ih =>
    obtain ⟨j, w⟩ := a
    show ((keyOf j, V.int (w * 268435456)) :: widK r).map _ = (keyOf j, V.int (w * 268435456)) :: widK r
    rw [List.map_cons, if_neg (fun z => h (by rw [List.map_cons, keyOf_inj z]; exact List.mem_cons_self)), ih fun z => h (by rw [List.map_cons]; exact List.mem_cons_of_mem _ z)]
theorem widK_put {l : List (List Nat × Int)} {k : List Nat} {d : Int} (nd : (l.map (·.1)).Nodup) : putK (widK l) (keyOf k) (.int ((widOf l k + d) * 268435456)) = widK (addW l k d) := by
  unfold putK
  rw [valV_any, widK_mem]
  by_cases q : k ∈ l.map (·.1)
  · rw [decide_eq_true q, if_pos rfl]
    induction l with
    | nil => cases q
    | cons a r ih =>
      obtain ⟨j, w⟩ := a
      obtain ⟨n1, n2⟩ := List.nodup_cons.mp nd
      by_cases e : j = k
      · subst e
        have e1 : addW ((j, w) :: r) j d = (j, w + d) :: r := if_pos rfl
        have e2 : widOf ((j, w) :: r) j = w := if_pos rfl
        rw [e1, e2]
        show ((keyOf j, V.int (w * 268435456)) :: widK r).map _ = (keyOf j, V.int ((w + d) * 268435456)) :: widK r
        rw [List.map_cons, if_pos rfl, widK_same n1]
      · have e1 : addW ((j, w) :: r) k d = (j, w) :: addW r k d := if_neg e
        have e2 : widOf ((j, w) :: r) k = widOf r k := if_neg e
        rw [e1, e2]
        show ((keyOf j, V.int (w * 268435456)) :: widK r).map _ = (keyOf j, V.int (w * 268435456)) :: widK (addW r k d)
        rw [List.map_cons, if_neg (fun z => e (keyOf_inj z)), ih n2 (by
          rcases List.mem_cons.mp q with y | y
          · exact absurd y.symm e
          · exact y)]
  · rw [decide_eq_false q, if_neg Bool.false_ne_true, widOf_no q, Int.zero_add]
    induction l with
    | nil => rfl
    | cons a r ih =>
      obtain ⟨j, w⟩ := a
      have e : ¬ j = k := fun z => q (by rw [List.map_cons, z]; exact List.mem_cons_self)
      have e1 : addW ((j, w) :: r) k d = (j, w) :: addW r k d := if_neg e
      rw [e1]
      show (keyOf j, V.int (w * 268435456)) :: (widK r ++ [(keyOf k, V.int (d * 268435456))]) = (keyOf j, V.int (w * 268435456)) :: widK (addW r k d)
      rw [ih (List.nodup_cons.mp nd).2 fun z => q (by rw [List.map_cons]; exact List.mem_cons_of_mem _ z)]
theorem parted_any {n : Nat} {ps : List Pr} (ok : PsOk n ps) (h : Nat → Nat) {r : Nat} (rn : r < n) (rr : h r = r) : (ps.any fun q => decide (q.1 ∈ cls h n r) != decide (q.2 ∈ cls h n r)) = ps.any (parted h r) := by
  refine any_congr fun q hq => ?_
  obtain ⟨o1, o2⟩ := ok.ok q hq
  unfold parted
  rw [show decide (q.1 ∈ cls h n r) = decide (h q.1 = r) from by rw [decide_eq_decide, mem_cls, rr]; exact ⟨fun z => z.2, fun z => ⟨by omega, z⟩⟩,
    show decide (q.2 ∈ cls h n r) = decide (h q.2 = r) from by rw [decide_eq_decide, mem_cls, rr]; exact ⟨fun z => z.2, fun z => ⟨o2, z⟩⟩]
theorem waitV_some (x : Int) : waitV (some x) = .int (x * 268435456) := rfl
/-- what the law keeps of a growth, with its rows -/
structure LGr (K : PySem.W.Frag) (H : Hp) (n : Nat) (ws : Wl) (ps : List Pr) (net : V) (S : Gs) (L : List Rw) (l d lt lr : Addr) : Prop where
  s : LSt H n ws S net l d
  tk : ∃ vs, H lt = some (.lst vs) ∧ TkL K H S.taken vs
  rw : ∃ vs, H lr = some (.lst vs) ∧ SeenL K H n ps L vs
  n1 : l ≠ lt
  n2 : l ≠ lr
  n3 : lt ≠ lr
theorem LGr.x {K : PySem.W.Frag} {T : List Addr} {H H' : Hp} {n : Nat} {ws : Wl} {ps : List Pr} {net : V} {S : Gs} {L : List Rw} {l d lt lr : Addr} (G : LGr K H n ws ps net S L l d lt lr) (e : Ext T noM H H') : LGr K H' n ws ps net S L l d lt lr := by
  obtain ⟨v1, a1, a2⟩ := G.tk
  obtain ⟨v2, b1, b2⟩ := G.rw
  exact ⟨G.s.x e, ⟨v1, e.lst (fun z => z) a1, (Tp.of e).tk a2⟩, ⟨v2, e.lst (fun z => z) b1, b2.t (Tp.of e)⟩, G.n1, G.n2, G.n3⟩
def spLGrown (K : PySem.W.Frag) (T : List Addr) : Sp := fun vs H Q _ => ∃ (net pz : V) (n : Nat) (ws : Wl) (ps : List Pr), vs = [net, pz] ∧ Wf n ws ∧ Rp H (netD n ws) net ∧ Rp H (pairsD ps) pz ∧ PsOk n ps ∧ (∀ q ∈ ps, Cn (wedges ws) q.1 q.2) ∧
  ∀ r lt d lr tv rv H', H' r = some (.tup [.ref lt, .ref d, .ref lr]) → H' lt = some (.lst tv) → TkL K H' (allGro n ws ps).1.taken tv → H' d = some (.dT (widK (allGro n ws ps).1.wid)) → H' lr = some (.lst rv) → SeenL K H' n ps (allGro n ws ps).2 rv → Ext T noM H H' → Q (.ref r) H'
section
variable {P : Program} {w : World} {K : PySem.W.Frag} {mg : Str → Option Value} {base : Heap} {T : List Addr} {aC : Addr}
end
end Mw

set_option Elab.async false
set_option linter.all false
set_option maxRecDepth 100000
set_option maxHeartbeats 4000000
namespace Mw
open PySem PySem.Spec PyProof.Rows L2 GE
/-! ### the law's tasks -/
def spTask (T : List Addr) : Sp := fun vs H Q _ => ∃ (p s : Addr) (most ways : Int), vs = [.ref p, .int most, .int ways] ∧ PoolAt H p s ∧ 1 ≤ most ∧ most ≤ 12 ∧ 0 ≤ ways ∧ ways ≤ 24 ∧
  ∀ t net pz n ws ps H', Wf n ws → PsOk n ps → (∀ q ∈ ps, Cn (wedges ws) q.1 q.2) → Rp H' (netD n ws) net → Rp H' (pairsD ps) pz → H' t = some (.tup [net, pz]) → PoolAt H' p s → Ext T (atP p) H H' → Q (.ref t) H'
def spAny (T : List Addr) : Sp := fun vs H Q _ => ∃ (p s : Addr), vs = [.ref p] ∧ PoolAt H p s ∧
  ∀ t net pz n ws ps H', Wf n ws → PsOk n ps → (∀ q ∈ ps, Cn (wedges ws) q.1 q.2) → Rp H' (netD n ws) net → Rp H' (pairsD ps) pz → H' t = some (.tup [net, pz]) → PoolAt H' p s → Ext T (atP p) H H' → Q (.ref t) H'
section
variable {P : Program} {w : World} {K : PySem.W.Frag} {mg : Str → Option Value} {base : Heap} {T : List Addr} {aC : Addr}
end
end Mw

set_option Elab.async false
set_option linter.all false
set_option maxRecDepth 100000
set_option maxHeartbeats 4000000
namespace Mw
open PySem PySem.Spec PyProof.Rows L2 GE
/-! ### the same data, also such as stand in the written part -/
def Sm : Nat → D → Prop
  | 0, _ => False
  | _ + 1, .i _ => True
  | _ + 1, .non => True
  | _ + 1, .bl _ => False
  | n + 1, .t ds => ds.length ≤ 1000 ∧ ∀ d ∈ ds, Sm n d
theorem tyx_tup {K : PySem.W.Frag} {H : Hp} {a : Addr} {xs : List V} (h : SqT K H a xs) : TyX K H (.ref a) (.type "tuple") := by
  rcases h with (h | ⟨o, h⟩) | ⟨o, its, n, h1, h2, _⟩
  · exact .base (.tup h)
  · exact .fTuple h
  · exact .kTuple h1 h2
mutual
def RpK (K : PySem.W.Frag) (H : Hp) : D → V → Prop
  | .i n, v => v = .int n
  | .non, v => v = .non
  | .bl b, v => v = .bl b
  | .t ds, v => ∃ a vs, v = .ref a ∧ SqT K H a vs ∧ RpKL K H ds vs
def RpKL (K : PySem.W.Frag) (H : Hp) : List D → List V → Prop
  | [], vs => vs = []
  | d :: ds, vs => ∃ v r, vs = v :: r ∧ RpK K H d v ∧ RpKL K H ds r
end
section
variable {K : PySem.W.Frag} {H H' : Hp} {T : List Addr}
theorem RpK.i {n : Int} {v : V} (h : RpK K H (.i n) v) : v = .int n := by unfold RpK at h; exact h
theorem RpK.t {ds : List D} {v : V} (h : RpK K H (.t ds) v) : ∃ a vs, v = .ref a ∧ SqT K H a vs ∧ RpKL K H ds vs := by unfold RpK at h; exact h
theorem rpk_i (n : Int) : RpK K H (.i n) (.int n) := by unfold RpK; rfl
theorem rpk_t {ds : List D} {a : Addr} {vs : List V} (h : SqT K H a vs) (r : RpKL K H ds vs) : RpK K H (.t ds) (.ref a) := by unfold RpK; exact ⟨a, vs, rfl, h, r⟩
theorem rpkl_nil : RpKL K H [] [] := by unfold RpKL; rfl
theorem rpkl_cons {d : D} {ds : List D} {v : V} {vs : List V} (h : RpK K H d v) (r : RpKL K H ds vs) : RpKL K H (d :: ds) (v :: vs) := by unfold RpKL; exact ⟨v, vs, rfl, h, r⟩
theorem RpKL.cons {d : D} {ds : List D} {vs : List V} (h : RpKL K H (d :: ds) vs) : ∃ v r, vs = v :: r ∧ RpK K H d v ∧ RpKL K H ds r := by unfold RpKL at h; exact h
theorem RpKL.nil {vs : List V} (h : RpKL K H [] vs) : vs = [] := by unfold RpKL at h; exact h
theorem RpKL.len : ∀ {ds : List D} {vs : List V}, RpKL K H ds vs → vs.length = ds.length
  | [], vs, h => by rw [h.nil] <;> rfl
  | d :: ds, vs, h => by
    obtain ⟨v, r, rfl, _, h2⟩ := h.cons
    rw [List.length_cons, List.length_cons, RpKL.len h2]
theorem RpKL.get : ∀ {ds : List D} {vs : List V} {i : Nat} {d : D}, RpKL K H ds vs → ds[i]? = some d → ∃ v, vs[i]? = some v ∧ RpK K H d v
  | [], vs, i, d, _, e => by simp at e
  | d :: ds, vs, 0, d', h, e => by
    obtain ⟨v, r, rfl, h1, _⟩ := h.cons
    simp at e
    exact ⟨v, rfl, e ▸ h1⟩
  | d :: ds, vs, i + 1, d', h, e => by
    obtain ⟨v, r, rfl, _, h2⟩ := h.cons
    obtain ⟨u, e1, e2⟩ := RpKL.get (i := i) h2 (by simpa using e)
    exact ⟨u, by simpa using e1, e2⟩
mutual
theorem RpK.tp (hp : ∀ b xs, SqT K H b xs → SqT K H' b xs) : ∀ {d : D} {v : V}, RpK K H d v → RpK K H' d v
  | .i n, v, h => by rw [h.i]; exact rpk_i n
  | .non, v, h => by unfold RpK at h ⊢; exact h
  | .bl b, v, h => by unfold RpK at h ⊢; exact h
  | .t ds, v, h => by
    obtain ⟨a, vs, rfl, h1, h2⟩ := h.t
    exact rpk_t (hp _ _ h1) (RpKL.tp hp h2)
theorem RpKL.tp (hp : ∀ b xs, SqT K H b xs → SqT K H' b xs) : ∀ {ds : List D} {vs : List V}, RpKL K H ds vs → RpKL K H' ds vs
  | [], vs, h => by rw [h.nil]; exact rpkl_nil
  | d :: ds, vs, h => by
    obtain ⟨v, r, rfl, h1, h2⟩ := h.cons
    exact rpkl_cons (RpK.tp hp h1) (RpKL.tp hp h2)
end
theorem RpK.x (e : Ext T noM H H') {d : D} {v : V} (h : RpK K H d v) : RpK K H' d v := h.tp fun b xs q => SqT.x q e fun z => z
theorem RpKL.x (e : Ext T noM H H') {d : List D} {v : List V} (h : RpKL K H d v) : RpKL K H' d v := h.tp fun b xs q => SqT.x q e fun z => z
mutual
theorem rpk_of : ∀ {d : D} {v : V}, Rp H d v → RpK K H d v
  | .i n, v, h => by rw [h.i]; exact rpk_i n
  | .non, v, h => by unfold Rp at h; unfold RpK; exact h
  | .bl b, v, h => by unfold Rp at h; unfold RpK; exact h
  | .t ds, v, h => by
    obtain ⟨a, vs, rfl, h1, h2⟩ := h.t
    exact rpk_t (SqT.of h1) (rpkl_of h2)
theorem rpkl_of : ∀ {ds : List D} {vs : List V}, RpL H ds vs → RpKL K H ds vs
  | [], vs, h => by rw [h.nil]; exact rpkl_nil
  | d :: ds, vs, h => by
    obtain ⟨v, r, rfl, h1, h2⟩ := h.cons
    exact rpkl_cons (rpk_of h1) (rpkl_of h2)
end
def frD (u : Int) : D := .t [.i (frX u), .i (frY u)]
theorem FrV.k {u : Int} {v : V} (h : FrV K H u v) : RpK K H (frD u) v := by
  obtain ⟨a, rfl, ha⟩ := h
  exact rpk_t ha (rpkl_cons (rpk_i _) (rpkl_cons (rpk_i _) rpkl_nil))
theorem sm_fr (u : Int) (k : Nat) : Sm (k + 2) (frD u) := ⟨by show 2 ≤ 1000; decide, fun d hd => by
  rcases List.mem_cons.mp hd with z | z
  · rw [z]; exact True.intro
  · rw [List.mem_singleton.mp z]; exact True.intro⟩
end
def spSame (K : PySem.W.Frag) (n : Nat) (T : List Addr) : Sp := fun vs H Q _ => ∃ (a b : V) (d : D), vs = [a, b] ∧ RpK K H d a ∧ RpK K H d b ∧ Sm n d ∧ ∀ H', Ext T noM H H' → Q (.bl true) H'
section
variable {P : Program} {w : World} {K : PySem.W.Frag} {mg : Str → Option Value} {base : Heap} {T : List Addr} {n : Nat}
theorem ok__law_same {f : Addr} {fd : FuncData} (F : Fun K "_law_same" "_law_same" s_law_same f fd) (m_isinstance : mg "isinstance" = none) (m_tuple : mg "tuple" = none) (m_str : mg "str" = none) (m_int : mg "int" = none) (m_len : mg "len" = none) (m_bool : mg "bool" = none) (m_range : mg "range" = none) {f_law_same : Addr} {fd_law_same : FuncData} (F_law_same : Fun K "_law_same" "_law_same" s_law_same f_law_same fd_law_same) (G_law_same : FnOk P w K mg base CX0 n f_law_same fd_law_same ["actual", "due"] (spSame K n T)) (b_law_same : Binds K fd_law_same ["actual", "due"] []) (g_law_same : mg "_law_same" = some (.ref f_law_same)) : FnOk P w K mg base CX0 (n + 1) f fd ["actual", "due"] (spSame K (n + 1) T) := by
  refine F.ok sc_law_same (fun vs H Q E h => ?_) (fun cdv A outer s H vs Q E hr h => ?_)
  · obtain ⟨x, y, d, rfl, ha, hb, hs, k⟩ := h
    rfl
  · obtain ⟨x, y, d, rfl, ha, hb, hs, k⟩ := h
    refine ⟨_, (pss_cons (ps_if (pt_val (pe_callB call_isi (by rfl) m_isinstance (by decide +kernel) (pa_cons (pv 1) (pa_cons (pe_bltn (u := .type "tuple") (v := .ty "tuple") (by rfl) m_tuple (by decide +kernel) rfl) pa_nil)))) (pss_cons (ps_if (PW.pt (pw_or (pt_not (pt_val (pe_callB call_isi (by rfl) m_isinstance (by decide +kernel) (pa_cons (pv 0) (pa_cons (pe_bltn (u := .type "tuple") (v := .ty "tuple") (by rfl) m_tuple (by decide +kernel) rfl) pa_nil))))) (pw_or1 (pt_cmpR op_ne (pe_callB call_len_seq (by rfl) m_len PySem.boot_len (pa_cons (pv 0) pa_nil)) (pe_callB call_len_seq (by rfl) m_len PySem.boot_len (pa_cons (pv 1) pa_nil)) (nomark _))))) (pss_one (ps_ret pe_bl)) pss_nil)
      (pss_one (ps_ret (pe_cmpR op_eq (pe_callB call_len_seq (by rfl) m_len PySem.boot_len (pa_cons (pe_lc (own := [("k", 2)]) (g := (gName 2)) rfl sc_law_same.nd (pi_range1 (by rfl) m_range (pa_cons (pe_callB call_len_seq (by rfl) m_len PySem.boot_len (pa_cons (pv 1) pa_nil)) pa_nil)) (blkOk_by (own := [("k", 2)]) (N := ["actual", "due", "k"]) (sc := defScope s_law_same) (by decide +kernel)) (fun _ _ _ _ _ => (pg_name (i := 2) sc_law_same.nd rfl (Or.inl rfl))) (fun _ _ _ _ _ => (pts_one (pt_not (pt_val (pe_call G_law_same hr (by rfl) g_law_same F_law_same.kp b_law_same .nil pass0 (pa_cons (pe_ix (GE.ix_tupK (K := K)) (pv 0) (pv 2) (fun _ _ => rfl)) (pa_cons (pe_ix (GE.ix_tupK (K := K)) (pv 1) (pv 2) (fun _ _ => rfl)) pa_nil))))))) (fun _ _ _ _ _ => (pv 2))) pa_nil)) pe_int (nomark _))))) pss_nil)
      (pss_cons (ps_if (pt_cmpR op_isN (pv 1) pe_non (nomark _)) (pss_one (ps_ret (pe_cmpR op_isN (pv 0) pe_non (nomark _)))) pss_nil)
      (pss_cons (ps_if (pt_val (pe_callB call_isi (by rfl) m_isinstance (by decide +kernel) (pa_cons (pv 1) (pa_cons (pe_bltn (u := .type "str") (v := .ty "str") (by rfl) m_str (by decide +kernel) rfl) pa_nil)))) (pss_one (ps_ret (pe_and (pe_callB call_isi (by rfl) m_isinstance (by decide +kernel) (pa_cons (pv 0) (pa_cons (pe_bltn (u := .type "str") (v := .ty "str") (by rfl) m_str (by decide +kernel) rfl) pa_nil))) (pe_one (pe_cmpR op_eq (pv 0) (pv 1) (nomark _)))))) pss_nil)
      (pss_one (ps_ret (pe_and (pe_callB call_isi (by rfl) m_isinstance (by decide +kernel) (pa_cons (pv 0) (pa_cons (pe_bltn (u := .type "int") (v := .ty "int") (by rfl) m_int (by decide +kernel) rfl) pa_nil))) (pe_and (pe_not (pe_callB call_isi (by rfl) m_isinstance (by decide +kernel) (pa_cons (pv 0) (pa_cons (pe_bltn (u := .type "bool") (v := .ty "bool") (by rfl) m_bool (by decide +kernel) rfl) pa_nil)))) (pe_one (pe_cmpR op_eq (pv 0) (pv 1) (nomark _)))))))))), ?_⟩
    cases d with
    | bl b => exact hs.elim
    | i z =>
      rw [ha.i, hb.i]
      refine ⟨_, rfl, _, _, _, _, false, rfl, .ty _, .base (.int _), kit_ty (by decide +kernel), ⟨_, rfl, iteF ?_⟩⟩
      refine ⟨_, rfl, rfl, _, rfl, iteF ?_⟩
      refine ⟨_, rfl, _, _, _, _, false, rfl, .ty _, .base (.int _), kit_ty (by decide +kernel), ⟨_, rfl, iteF ?_⟩⟩
      refine ⟨_, rfl, _, _, _, _, true, rfl, .ty _, .base (.int _), kit_ty (by decide +kernel), ⟨_, rfl, iteT ?_⟩⟩
      refine ⟨_, rfl, _, _, _, _, false, rfl, .ty _, .base (.int _), kit_ty (by decide +kernel), ⟨_, rfl, ⟨_, rfl, iteT ?_⟩⟩⟩
      refine ⟨_, rfl, _, rfl, rfl, ?_⟩
      rw [decide_eq_true rfl]
      exact k H (Ext.refl _ _ _)
    | non =>
      unfold RpK at ha hb
      subst ha hb
      refine ⟨_, rfl, _, _, _, _, false, rfl, .ty _, .base (.non), kit_ty (by decide +kernel), ⟨_, rfl, iteF ?_⟩⟩
      refine ⟨_, rfl, rfl, _, rfl, iteT ?_⟩
      exact ⟨_, rfl, rfl, k H (Ext.refl _ _ _)⟩
    | t ds =>
      obtain ⟨a1, v1, rfl, h1, r1⟩ := ha.t
      obtain ⟨a2, v2, rfl, h2, r2⟩ := hb.t
      obtain ⟨hlen, hsm⟩ := hs
      have hl1 := r1.len
      have hl2 := r2.len
      have e12 : v1.length = v2.length := by omega
      refine ⟨_, rfl, _, _, _, _, true, rfl, .ty _, tyx_tup h2, kit_ty (by decide +kernel), ⟨_, rfl, iteT ?_⟩⟩
      refine ⟨_, rfl, _, _, _, _, true, rfl, .ty _, tyx_tup h1, kit_ty (by decide +kernel), ⟨_, rfl, iteF ?_⟩⟩
      refine ⟨_, rfl, a1, v1, rfl, .inr (h1), _, rfl, a2, v2, rfl, .inr (h2), rfl, _, rfl, ?_⟩
      refine ite2 (fun q => ?_) (fun q => ?_)
      · exfalso; rw [e12] at q; simp at q
      refine ⟨_, rfl, a2, v2, rfl, .inr (h2), v2.length, rfl, by omega, by omega, fun Dl hD => ?_⟩
      have e1 : Ext T noM H (upd H Dl (.lst [])) := Ext.new hD
      refine lc_range (lo := 0) (n := ((v2.length : Int) - 0).toNat) (fun j H' => Ext T noM H H' ∧ H' Dl = some (.lst [])) ⟨e1, upd_same⟩ ?_ ?_
      · rintro j H3 hj ⟨e, hD3⟩
        have hj' : j < ds.length := by omega
        obtain ⟨x1, g1, p1⟩ := r1.get (List.getElem?_eq_getElem hj')
        obtain ⟨x2, g2, p2⟩ := r2.get (List.getElem?_eq_getElem hj')
        have hz : (0 : Int) + (j : Int) = (j : Int) := Int.zero_add _
        rw [hz]
        refine ⟨rfl, ?_⟩
        refine ⟨_, rfl, _, rfl, a1, _, _, _, rfl, rfl, SqT.x h1 e fun z => z, at_of (j := j) rfl g1, _, rfl, _, rfl, a2, _, _, _, rfl, rfl, SqT.x h2 e fun z => z, at_of (j := j) rfl g2, x1, x2, ds[j], rfl, RpK.x e p1, RpK.x e p2, hsm _ (List.getElem_mem hj'), fun H4 e4 => ⟨_, rfl, iteF ⟨e.trans e4, e4.lst (fun z => z) hD3⟩⟩⟩
      · rintro H3 ⟨e, hD3⟩
        refine ⟨Dl, [], rfl, .inl (SqL.of hD3), rfl, ?_⟩
        exact k H3 e
end
section
variable {P : Program} {w : World} {K : PySem.W.Frag} {mg : Str → Option Value} {base : Heap} {T : List Addr}
theorem same_all {f : Addr} {fd : FuncData} (F : Fun K "_law_same" "_law_same" s_law_same f fd) (m_isinstance : mg "isinstance" = none) (m_tuple : mg "tuple" = none) (m_str : mg "str" = none) (m_int : mg "int" = none) (m_len : mg "len" = none) (m_bool : mg "bool" = none)
    (m_range : mg "range" = none) (b : Binds K fd ["actual", "due"] []) (g : mg "_law_same" = some (.ref f)) : ∀ n, FnOk P w K mg base CX0 n f fd ["actual", "due"] (spSame K n T)
  | 0 => ⟨fun vs H Q E h => by obtain ⟨x, y, d, rfl, _⟩ := h; rfl, fun A outer s H args us vs Q E hr he hb hv hs => by obtain ⟨x, y, d, rfl, _, _, hs, _⟩ := hs; exact hs.elim⟩
  | n + 1 => ok__law_same F m_isinstance m_tuple m_str m_int m_len m_bool m_range F (same_all F m_isinstance m_tuple m_str m_int m_len m_bool m_range b g n) b g
end
end Mw

set_option Elab.async false
set_option linter.all false
set_option maxRecDepth 100000
set_option maxHeartbeats 4000000
namespace Mw
open PySem PySem.Spec PyProof.Rows L2 GE
def spLaw (K : PySem.W.Frag) (T : List Addr) : Sp := fun vs H Q _ => ∃ (a : Addr) (ns : List Int), vs = [.ref a] ∧ SqL K H a (ns.map V.int) ∧ ns.length ≤ 63 ∧ Wd T H ∧ ∀ H', Q (.bl true) H'
theorem gro_GF {n : Nat} {ws : Wl} {ps : List Pr} (W : WsOk n ws) (J : ∀ q ∈ ps, Cn (wedges ws) q.1 q.2) : ∀ (k t : Nat) (S : Gs) (L : List Rw), GF n ws t S → L.length ≤ t + 1 → ∃ t', GF n ws t' (gro n ws ps k S L).1 ∧ (gro n ws ps k S L).2.length ≤ t' + 1
  | 0, t, S, L, G, hL => ⟨t, G, hL⟩
  | k + 1, t, S, L, G, hL => by
    by_cases h : opens n ps S.h = []
    · rw [gro_stop h]; exact ⟨t, G, hL⟩
    · have e : gro n ws ps (k + 1) S L = gro n ws ps k (turn n ws ps S) (L ++ [((turn n ws ps S).time, (turn n ws ps S).h)]) := if_neg h
      rw [e]
      exact gro_GF W J k (t + 1) _ _ (G.turn W J h).2 (by rw [List.length_append, List.length_singleton]; omega)
theorem allGro_GF {n : Nat} {ws : Wl} {ps : List Pr} (W : WsOk n ws) (J : ∀ q ∈ ps, Cn (wedges ws) q.1 q.2) : ∃ t, GF n ws t (allGro n ws ps).1 ∧ (allGro n ws ps).2.length ≤ t + 1 := gro_GF W J n 0 start _ (GF.start W) (Nat.le_refl _)
section
variable {P : Program} {w : World} {K : PySem.W.Frag} {mg : Str → Option Value} {base : Heap} {T : List Addr} {aC : Addr}
end
end Mw

set_option Elab.async false
set_option linter.all false
set_option maxRecDepth 100000
set_option maxHeartbeats 4000000
namespace Mw
open PySem PySem.Spec PyProof.Rows L2 GE
/-! ### the paper of a growth -/
abbrev Wid := List (List Nat × Int)
structure PapOf (wid rs : Wid) : Prop where
  perm : rs.Perm wid
  srt : (rs.map fun kw => li kw.1).Pairwise (fun x y => lexL y x = false)
theorem li_inj {a b : List Nat} (h : li a = li b) : a = b := (List.map_inj_right (f := fun x : Nat => (x : Int)) fun x y e => by omega).mp h
theorem nodup_idx {α : Type} {l : List α} (nd : l.Nodup) {i j : Nat} (hi : i < l.length) (hj : j < l.length) (e : l[i] = l[j]) : i = j := by
  rcases Nat.lt_trichotomy i j with h | h | h
  · exact absurd e (List.pairwise_iff_getElem.mp nd i j hi hj h)
  · exact h
  · exact absurd e.symm (List.pairwise_iff_getElem.mp nd j i hj hi h)
theorem PapOf.uniq {wid rs rs' : Wid} (nd : (wid.map (·.1)).Nodup) (a : PapOf wid rs) (b : PapOf wid rs') : rs = rs' := by
  have hp := a.perm.trans b.perm.symm
  have hk := perm_sorted (hp.map fun kw => li kw.1) a.srt b.srt
  have nd' : (rs.map (·.1)).Nodup := (a.perm.map (·.1)).nodup_iff.mpr nd
  have hf : ∀ {x y : List Nat × Int}, x ∈ rs → y ∈ rs → x.1 = y.1 → x = y := fun {x y} hx hy e => by
    obtain ⟨i, hi, ex⟩ := List.mem_iff_getElem.mp hx
    obtain ⟨j, hj, ey⟩ := List.mem_iff_getElem.mp hy
    have : i = j := nodup_idx nd' (by rw [List.length_map]; exact hi) (by rw [List.length_map]; exact hj) (by rw [List.getElem_map, List.getElem_map, ex, ey, e])
    subst this
    rw [← ex, ← ey]
  apply List.ext_getElem hp.length_eq
  intro i h1 h2
  have e1 : li rs[i].1 = li rs'[i].1 := by
    have : (rs.map fun kw => li kw.1)[i]'(by rw [List.length_map]; exact h1) = (rs'.map fun kw => li kw.1)[i]'(by rw [List.length_map]; exact h2) := List.getElem_of_eq hk _
    rw [List.getElem_map, List.getElem_map] at this
    exact this
  exact hf (List.getElem_mem h1) (hp.mem_iff.mpr (List.getElem_mem h2)) (li_inj e1)
def rowP (kw : List Nat × Int) : D := .t [chD kw.1, frD kw.2]
def papD (rs : Wid) : D := .t (rs.map rowP)
theorem WdL.mem {K : PySem.W.Frag} {H : Hp} : ∀ {l : Wid} {kvs : List (List Key × V)}, WdL K H l kvs → ∀ kv ∈ kvs, ∃ kw ∈ l, kv.1 = keyOf kw.1
  | [], kvs, h, kv, hk => by rw [show kvs = [] from h] at hk; cases hk
  | (j, w) :: r, kvs, ⟨v, us, e, h1, h2⟩, kv, hk => by
    subst e
    rcases List.mem_cons.mp hk with q | q
    · exact ⟨(j, w), List.mem_cons_self, by rw [q]⟩
    · obtain ⟨kw, q1, q2⟩ := WdL.mem h2 kv q
      exact ⟨kw, List.mem_cons_of_mem _ q1, q2⟩
theorem WdL.at_ {K : PySem.W.Frag} {H : Hp} : ∀ {l : Wid} {kvs : List (List Key × V)}, WdL K H l kvs → (l.map (·.1)).Nodup → ∀ kw ∈ l, ∃ v, valV kvs (keyOf kw.1) = some v ∧ FrV K H kw.2 v
  | [], kvs, h, nd, kw, hk => nomatch hk
  | (j, w) :: r, kvs, ⟨v, us, e, h1, h2⟩, nd, kw, hk => by
    subst e
    obtain ⟨n1, n2⟩ := List.nodup_cons.mp nd
    rcases List.mem_cons.mp hk with q | q
    · subst q
      exact ⟨v, valV_pos rfl, h1⟩
    · rw [valV_neg (fun z => n1 (by
        have e : j = kw.1 := keyOf_inj z
        show j ∈ _
        rw [e]; exact List.mem_map_of_mem q))]
      exact WdL.at_ h2 n2 kw q
theorem paired_zip {K : PySem.W.Frag} {H : Hp} {H0 : Hp} : ∀ {l : Wid} {kvs : List (List Key × V)} {bs : List Addr}, WdL K H0 l kvs → IsKeys H kvs bs → bs.length = l.length ∧ ∀ z ∈ (bs.map V.ref).zip l, ∃ b : Addr, z.1 = .ref b ∧ H b = some (.tup (natsV z.2.1))
  | [], kvs, bs, h, hk => by
    rw [show kvs = [] from h] at hk
    unfold IsKeys at hk
    cases hk
    exact ⟨rfl, fun z hz => nomatch hz⟩
  | (j, w) :: r, kvs, bs, ⟨v, us, e, h1, h2⟩, hk => by
    subst e
    unfold IsKeys at hk
    cases hk with
    | cons hb ht =>
      obtain ⟨q1, q2⟩ := paired_zip h2 (show IsKeys H us _ from ht)
      refine ⟨by rw [List.length_cons, List.length_cons, q1], fun z hz => ?_⟩
      rw [List.map_cons, List.zip_cons_cons] at hz
      rcases List.mem_cons.mp hz with q | q
      · subst q
        exact ⟨_, rfl, by rw [← keyOf_kV]; exact hb⟩
      · exact q2 z q
theorem pap_of {K : PySem.W.Frag} {H H0 : Hp} {wid : Wid} {kvs : List (List Key × V)} {bs : List Addr} {ys : List V} (hw : WdL K H0 wid kvs) (hk : IsKeys H kvs bs) (hp : ys.Perm (bs.map V.ref)) (hs : SrtO.Srtd (fun x y => lexL (keyH H x) (keyH H y)) ys) :
    ∃ rs, PapOf wid rs ∧ ys.length = rs.length ∧ ∀ (i : Nat) (kw : List Nat × Int), rs[i]? = some kw → ∃ b : Addr, ys[i]? = some (V.ref b) ∧ H b = some (.tup (natsV kw.1)) := by
  obtain ⟨hl, hz⟩ := paired_zip hw hk
  have e1 : ((bs.map V.ref).zip wid).map Prod.fst = bs.map V.ref := List.map_fst_zip (by rw [List.length_map]; omega)
  have e2 : ((bs.map V.ref).zip wid).map Prod.snd = wid := List.map_snd_zip (by rw [List.length_map]; omega)
  obtain ⟨m, p1, p2⟩ := perm_lift Prod.fst hp.symm ((bs.map V.ref).zip wid) e1.symm
  have hm : ∀ z ∈ m, ∃ b : Addr, z.1 = .ref b ∧ H b = some (.tup (natsV z.2.1)) := fun z h => hz z (p1.mem_iff.mp h)
  have hkey : ∀ z ∈ m, keyH H z.1 = li z.2.1 := fun z h => by
    obtain ⟨b, q1, q2⟩ := hm z h
    rw [q1]
    refine keyH_at ?_
    rw [q2]; unfold natsV li; rw [List.map_map]; rfl
  refine ⟨m.map Prod.snd, ⟨by have := p1.map Prod.snd; rw [e2] at this; exact this, ?_⟩, by rw [← p2, List.length_map, List.length_map], fun i kw h => ?_⟩
  · rw [List.map_map]
    have e3 : m.map ((fun kw : List Nat × Int => li kw.1) ∘ Prod.snd) = ys.map (keyH H) := by
      rw [← p2, List.map_map]
      exact List.map_congr_left fun z h => (hkey z h).symm
    rw [e3, List.pairwise_map]
    exact hs
  · rw [List.getElem?_map] at h
    cases q : m[i]? with
    | none => rw [q] at h; cases h
    | some z =>
      rw [q] at h
      obtain rfl := Option.some.inj h
      obtain ⟨b, q1, q2⟩ := hm z (List.mem_of_getElem? q)
      exact ⟨b, by rw [← p2, List.getElem?_map, q, ← q1]; rfl, q2⟩
theorem RpKL.snoc {K : PySem.W.Frag} {H : Hp} {d : D} {v : V} (hd : RpK K H d v) : ∀ {ds : List D} {vs : List V}, RpKL K H ds vs → RpKL K H (ds ++ [d]) (vs ++ [v])
  | [], vs, h => by rw [h.nil]; exact rpkl_cons hd rpkl_nil
  | x :: ds, vs, h => by
    obtain ⟨u, r, rfl, h1, h2⟩ := h.cons
    exact rpkl_cons h1 (RpKL.snoc hd h2)
def spPaper (K : PySem.W.Frag) (T : List Addr) (aC : Addr) : Sp := fun vs H Q _ => ∃ (f : FAd) (n t : Nat) (ws : Wl) (S : Gs), vs = [.ref f.p] ∧ FieldAt K aC H f n ws S ∧ GB n ws t 300 S ∧ (S.wid.map (·.1)).Nodup ∧ S.wid.length ≤ 300 ∧ Wd T H ∧
  ∀ rs v H', PapOf S.wid rs → RpK K H' (papD rs) v → Ext T noM H H' → Q v H'
def spMoats (K : PySem.W.Frag) (T : List Addr) : Sp := fun vs H Q _ => ∃ (net pz : V) (n : Nat) (ws : Wl) (ps : List Pr), vs = [net, pz] ∧ Wf n ws ∧ Rp H (netD n ws) net ∧ Rp H (pairsD ps) pz ∧ PsOk n ps ∧ (∀ q ∈ ps, Cn (wedges ws) q.1 q.2) ∧ Wd T H ∧
  ∀ rs v H', PapOf (allGro n ws ps).1.wid rs → RpK K H' (papD rs) v → Ext T noM H H' → Q v H'
section
variable {P : Program} {w : World} {K : PySem.W.Frag} {mg : Str → Option Value} {base : Heap} {T : List Addr} {aC : Addr}
theorem ok_Field_paper {f : Addr} {fd : FuncData} {c PT : Addr} (F : GE.FunC K "paper" "Field.paper" sField_paper f fd c) (TB : GxR.TabB base mg c PT) (hPT : PT ∈ T) (m_tuple : mg "tuple" = none) (m_sorted : mg "sorted" = none) (fx : FTx K aC) : FnOk P w K mg base CX0 3 f fd ["self"] (spPaper K T aC) := by
  refine F.ok scField_paper (fun vs H Q E h => ?_) (fun A outer s H vs Q E hr h => ?_)
  · obtain ⟨f, n, t, ws, S, rfl, F, G, nd, wl, wd, k⟩ := h
    rfl
  · obtain ⟨f, n, t, ws, S, rfl, F, G, nd, wl, wd, k⟩ := h
    refine ⟨_, (pss_one (ps_ret (GE.pe_tupG (own := [("places", 1)]) (g := (gName 1)) (k := 0) hr (by rfl) m_tuple scField_paper.nd TB rfl (pi_list (pe_callB (GE.cr_sortedDT rfl) (by rfl) m_sorted (by decide +kernel) (pa_cons (pe_fld (pv 0) rfl) pa_nil))) (GE.gblk_by (N := ["self", "places"]) (sc := defScope sField_paper) (by decide +kernel)) (fun _ _ _ _ _ _ _ _ => (pg_name (i := 1) scField_paper.nd rfl (Or.inl rfl))) (fun _ _ _ _ _ _ _ _ hr' => pts_nil) (fun _ _ _ _ _ _ _ _ hr' => (pe_tup (pa_cons (pv 1) (pa_cons (pe_dget (by have := hr'.un; show (Around.deeper _ _).units + 1 < _; omega) (GE.pe_fldK (K := K) (pv 0) rfl) (pv 1) (fun _ _ => rfl)) pa_nil))))))), ?_⟩
    obtain ⟨dx, tv, hob, _⟩ := F.ob
    obtain ⟨kvs, hW, hwl⟩ := F.wd
    refine ⟨_, rfl, f.p, aC, dx, _, _, rfl, hob, fx.cl, fx.n_widths, ff_widths _ _, f.lw, kvs, rfl, hW, fun kv hk => ?_, fun ys lq bs hk hperm hsort hlq => ?_⟩
    · obtain ⟨kw, h1, h2⟩ := hwl.mem kv hk
      refine ⟨li kw.1, by rw [h2]; unfold keyOf li; rw [List.map_map]; rfl, fun z => (G.key kw h1).2.1 (List.map_eq_nil_iff.mp z)⟩
    obtain ⟨rs, PO, hyl, hys⟩ := pap_of hwl hk hperm hsort
    have hrl : rs.length ≤ 300 := by rw [PO.perm.length_eq]; exact wl
    have e1 : Ext T noM H (upd H lq (.lst ys)) := Ext.new hlq
    have hl1 : (upd H lq (.lst ys)) lq = some (.lst ys) := upd_same
    generalize (upd H lq (.lst ys)) = H1 at e1 hl1 ⊢
    have wd1 := wd.ext e1
    refine ⟨lq, rfl, ⟨_, SqL.of hl1⟩, wd1 PT hPT, fun H2 tb => ?_⟩
    have e2 : Ext T noM H1 H2 := Ext.tab (wd1 PT hPT) tb
    have e12 := e1.trans e2
    refine turn_listI (K := K) (a := lq) (xs := ys) (fun i zs H' => Ext T noM H2 H' ∧ RpKL K H' ((rs.take i).map rowP) zs) ⟨Ext.refl _ _ _, by rw [List.take_zero]; exact rpkl_nil⟩ (fun i zs H' _ p => SqL.of ((e2.trans p.1).lst (fun z => z) hl1)) ?_ ?_
    · rintro zs H' ⟨e, r⟩ q hq
      rw [hyl, List.take_length] at r
      have eq : Ext T noM H' (upd H' q (.tup zs)) := Ext.new hq
      exact k rs _ _ PO (rpk_t (SqT.of upd_same) (RpKL.x eq r)) (e12.trans (e.trans eq))
    · rintro i x zs H' hx ⟨e, r⟩ N hN
      have hi : i < rs.length := by have := (List.getElem?_eq_some_iff.mp hx).1; omega
      have hri : rs[i]? = some rs[i] := List.getElem?_eq_getElem hi
      obtain ⟨b, b1, b2⟩ := hys i rs[i] hri
      rw [hx] at b1
      obtain rfl := Option.some.inj b1
      have hmem : rs[i] ∈ S.wid := PO.perm.mem_iff.mp (List.getElem_mem hi)
      obtain ⟨wv, v1, v2⟩ := hwl.at_ nd _ hmem
      have e0 := e12.trans e
      have F' := F.x e0
      obtain ⟨dx', tv', hob', _⟩ := F'.ob
      have hW' := e0.kp _ _ (fun z => z) hW (fun ps z => nomatch z)
      have b3 := e0.tup (fun z => z) b2
      have hzl := r.len
      rw [List.length_map, List.length_take] at hzl
      refine ⟨rfl, tYesI ?_⟩
      refine ⟨_, rfl, _, rfl, f.p, aC, dx', _, _, rfl, hob', fx.cl, fx.n_widths, ff_widths _ _, _, rfl, f.lw, wv, rfl, ?_, ?_⟩
      · have := DGet.t (k := keyOf rs[i].1) hW' (by rw [keyOf_kV]; exact b3)
        rw [v1] at this; exact this
      refine ⟨by show 2 ≤ sizeLine; decide, fun q hq => ⟨small1000 (by omega), ?_⟩⟩
      have eq : Ext T noM H' (upd H' q (.tup [.ref b, wv])) := Ext.new hq
      refine hN _ _ ⟨e.trans eq, ?_⟩
      rw [take_succ' hri, List.map_append]
      have row : RpK K (upd H' q (.tup [.ref b, wv])) (rowP rs[i]) (.ref q) := rpk_t (SqT.of upd_same) (rpkl_cons (rpk_of (rp_ch (eq.tup (fun z => z) b3))) (rpkl_cons ((v2.x e0).x eq).k rpkl_nil))
      exact RpKL.snoc row (RpKL.x eq r)
end
end Mw

set_option Elab.async false
set_option linter.all false
set_option maxRecDepth 100000
set_option maxHeartbeats 4000000
namespace Mw
open PySem PySem.Spec PyProof.Rows L2 GE
def outc (c : Nat) (cs : List Nat) : List Nat := cs.filter fun x => decide (x ≠ c)
def spr (ws : List Wy) (cs : List Nat) (ps : List Pr) : Option Nat := cs.find? fun c => jn ws (outc c cs) ps
def optV : Option Nat → V
  | some c => .int (c : Nat)
  | none => .non
theorem Ch.out {m : Nat} {cs : List Nat} (C : Ch m cs) (c : Nat) : Ch m (outc c cs) := ⟨fun x hx => C.lt x (List.mem_filter.mp hx).1, C.asc.filter _⟩
theorem outc_len (c : Nat) (cs : List Nat) : (outc c cs).length ≤ cs.length := List.length_filter_le _ _
theorem find_at {α : Type} {f : α → Bool} {l : List α} {i : Nat} {x : α} (hx : l[i]? = some x) (hb : ∀ y ∈ l.take i, f y = false) (h : f x = true) : l.find? f = some x := by
  have hi := (List.getElem?_eq_some_iff.mp hx).1
  have e : l = l.take i ++ x :: l.drop (i + 1) := by
    have e1 := List.take_append_drop i l
    have e2 : l.drop i = x :: l.drop (i + 1) := by
      rw [List.drop_eq_getElem_cons hi]
      congr 1
      exact (List.getElem?_eq_some_iff.mp hx).2
    rw [← e2, e1]
  rw [e, List.find?_append, List.find?_eq_none.mpr fun y hy => by rw [hb y hy]; exact Bool.false_ne_true]
  simp [h]
theorem find_no {α : Type} {f : α → Bool} {l : List α} (hb : ∀ y ∈ l, f y = false) : l.find? f = none := List.find?_eq_none.mpr fun y hy => by rw [hb y hy]; exact Bool.false_ne_true
/-! ### forests -/
theorem Cn.snoc_iff {es : List (Nat × Nat)} {a b x y : Nat} : Cn (es ++ [(a, b)]) x y ↔ Cn es x y ∨ (Cn es x a ∧ Cn es b y) ∨ (Cn es x b ∧ Cn es a y) := by
  constructor
  · intro h
    induction h with
    | refl => exact .inl (.refl _)
    | fwd _ he ih =>
      rcases List.mem_append.mp he with q | q
      · rcases ih with z | ⟨z1, z2⟩ | ⟨z1, z2⟩
        · exact .inl (z.fwd q)
        · exact .inr (.inl ⟨z1, z2.fwd q⟩)
        · exact .inr (.inr ⟨z1, z2.fwd q⟩)
      · have e := List.mem_singleton.mp q
        injection e with e1 e2
        subst e1 e2
        rcases ih with z | ⟨z1, z2⟩ | ⟨z1, z2⟩
        · exact .inr (.inl ⟨z, .refl _⟩)
        · exact .inr (.inl ⟨z1, .refl _⟩)
        · exact .inl z1
    | bwd _ he ih =>
      rcases List.mem_append.mp he with q | q
      · rcases ih with z | ⟨z1, z2⟩ | ⟨z1, z2⟩
        · exact .inl (z.bwd q)
        · exact .inr (.inl ⟨z1, z2.bwd q⟩)
        · exact .inr (.inr ⟨z1, z2.bwd q⟩)
      · have e := List.mem_singleton.mp q
        injection e with e1 e2
        subst e1 e2
        rcases ih with z | ⟨z1, z2⟩ | ⟨z1, z2⟩
        · exact .inr (.inr ⟨z, .refl _⟩)
        · exact .inl z1
        · exact .inr (.inr ⟨z1, .refl _⟩)
  · have up : ∀ {u v : Nat}, Cn es u v → Cn (es ++ [(a, b)]) u v := fun c => c.mono fun e he => List.mem_append_left _ he
    have ab : Cn (es ++ [(a, b)]) a b := .fwd (.refl _) (List.mem_append_right _ (List.mem_singleton.mpr rfl))
    rintro (z | ⟨z1, z2⟩ | ⟨z1, z2⟩)
    · exact up z
    · exact ((up z1).trans ab).trans (up z2)
    · exact ((up z1).trans ab.symm).trans (up z2)
theorem mem_outc {c x : Nat} {cs : List Nat} : x ∈ outc c cs ↔ x ∈ cs ∧ x ≠ c := by unfold outc; rw [List.mem_filter, decide_eq_true_eq]
theorem mem_edg {ws : List Wy} {cs : List Nat} {e : Nat × Nat} : e ∈ edg ws cs ↔ ∃ c ∈ cs, e = ((wyAt ws c).1, (wyAt ws c).2.1) := by
  unfold edg; rw [List.mem_map]
  exact ⟨fun ⟨c, h1, h2⟩ => ⟨c, h1, h2.symm⟩, fun ⟨c, h1, h2⟩ => ⟨c, h1, h2.symm⟩⟩
theorem edg_mono {ws : List Wy} {cs ds : List Nat} (h : ∀ x ∈ cs, x ∈ ds) : ∀ e ∈ edg ws cs, e ∈ edg ws ds := fun e he => by
  obtain ⟨c, h1, h2⟩ := mem_edg.mp he
  exact mem_edg.mpr ⟨c, h c h1, h2⟩
theorem edg_in {ws : List Wy} {cs : List Nat} {c : Nat} (h : c ∈ cs) : Cn (edg ws cs) (wyAt ws c).1 (wyAt ws c).2.1 := .fwd (.refl _) (mem_edg.mpr ⟨c, h, rfl⟩)
structure Fo (ws : List Wy) (cs : List Nat) : Prop where
  nd : cs.Nodup
  br : ∀ c ∈ cs, ¬ Cn (edg ws (outc c cs)) (wyAt ws c).1 (wyAt ws c).2.1
theorem Fo.nil (ws : List Wy) : Fo ws [] := ⟨List.nodup_nil, fun c h => nomatch h⟩
theorem Fo.snoc {ws : List Wy} {cs : List Nat} {c : Nat} (F : Fo ws cs) (h : ¬ Cn (edg ws cs) (wyAt ws c).1 (wyAt ws c).2.1) : Fo ws (cs ++ [c]) := by
  have hc : c ∉ cs := fun z => h (edg_in z)
  refine ⟨by rw [List.nodup_append]; exact ⟨F.nd, List.nodup_cons.mpr ⟨(fun h => nomatch h), List.nodup_nil⟩, fun a ha b hb z => hc (by rw [← List.mem_singleton.mp hb, ← z]; exact ha)⟩, fun d hd => ?_⟩
  have es : ∀ e ∈ edg ws [c], e = ((wyAt ws c).1, (wyAt ws c).2.1) := fun e he => by
    obtain ⟨x, h1, h2⟩ := mem_edg.mp he
    rw [h2, List.mem_singleton.mp h1]
  by_cases e : d = c
  · subst e
    exact fun z => h (z.mono (edg_mono fun x hx => by
      obtain ⟨h1, h2⟩ := mem_outc.mp hx
      rcases List.mem_append.mp h1 with q | q
      · exact q
      · exact absurd (List.mem_singleton.mp q) h2))
  · have hd' : d ∈ cs := by
      rcases List.mem_append.mp hd with q | q
      · exact q
      · exact absurd (List.mem_singleton.mp q) e
    intro z
    have z2 : Cn (edg ws (outc d cs) ++ [((wyAt ws c).1, (wyAt ws c).2.1)]) (wyAt ws d).1 (wyAt ws d).2.1 := z.mono fun u hu => by
      obtain ⟨x, h1, h2⟩ := mem_edg.mp hu
      obtain ⟨h3, h4⟩ := mem_outc.mp h1
      rcases List.mem_append.mp h3 with q | q
      · exact List.mem_append_left _ (mem_edg.mpr ⟨x, mem_outc.mpr ⟨q, h4⟩, h2⟩)
      · rw [h2, List.mem_singleton.mp q]; exact List.mem_append_right _ (List.mem_singleton.mpr rfl)
    have up : ∀ {u v : Nat}, Cn (edg ws (outc d cs)) u v → Cn (edg ws cs) u v := fun c => c.mono (edg_mono fun x hx => (mem_outc.mp hx).1)
    have dd := edg_in (ws := ws) hd'
    rcases Cn.snoc_iff.mp z2 with q | ⟨q1, q2⟩ | ⟨q1, q2⟩
    · exact F.br d hd' q
    · exact h (((up q1).symm.trans dd).trans (up q2).symm)
    · exact h (((up q2).trans dd.symm).trans (up q1))
theorem jn_iff {n : Nat} {ws : List Wy} {cs : List Nat} {ps : List Pr} (W : Wf n ws) (ok : PsOk n ps) (hc : ∀ c ∈ cs, c < ws.length) : jn ws cs ps = true ↔ ∀ p ∈ ps, Cn (edg ws cs) p.1 p.2 := by
  unfold jn jn1
  rw [List.all_eq_true]
  exact ⟨fun h p hp => ((hom_ok W cs hc).iff p.1 p.2 (by have := ok.ok p hp; omega) (ok.ok p hp).2).mp (of_decide_eq_true (h p hp)), fun h p hp => decide_eq_true (((hom_ok W cs hc).iff p.1 p.2 (by have := ok.ok p hp; omega) (ok.ok p hp).2).mpr (h p hp))⟩
theorem jn_mono {n : Nat} {ws : List Wy} {cs ds : List Nat} {ps : List Pr} (W : Wf n ws) (ok : PsOk n ps) (hd : ∀ c ∈ ds, c < ws.length) (h : ∀ x ∈ cs, x ∈ ds) (j : jn ws cs ps = true) : jn ws ds ps = true :=
  (jn_iff W ok hd).mpr fun p hp => ((jn_iff W ok fun c hc => hd c (h c hc)).mp j p hp).mono (edg_mono h)
/-- a way that is not needed in the whole is not needed in a part that joins -/
theorem prune {n : Nat} {ws : List Wy} {F kept : List Nat} {ps : List Pr} {c : Nat} (W : Wf n ws) (ok : PsOk n ps) (FO : Fo ws F) (hF : ∀ c ∈ F, c < ws.length) (hk : ∀ x ∈ kept, x ∈ F) (jk : jn ws kept ps = true) (jc : jn ws (outc c F) ps = true) : jn ws (outc c kept) ps = true := by
  have kl : ∀ x ∈ kept, x < ws.length := fun x hx => hF x (hk x hx)
  have ol : ∀ x ∈ outc c kept, x < ws.length := fun x hx => kl x (mem_outc.mp hx).1
  refine (jn_iff W ok ol).mpr fun p hp => ?_
  have h1 := (jn_iff W ok kl).mp jk p hp
  have h2 := (jn_iff W ok (fun x hx => hF x (mem_outc.mp hx).1)).mp jc p hp
  have h3 : Cn (edg ws (outc c kept) ++ [((wyAt ws c).1, (wyAt ws c).2.1)]) p.1 p.2 := h1.mono fun u hu => by
    obtain ⟨x, q1, q2⟩ := mem_edg.mp hu
    by_cases e : x = c
    · rw [q2, e]; exact List.mem_append_right _ (List.mem_singleton.mpr rfl)
    · exact List.mem_append_left _ (mem_edg.mpr ⟨x, mem_outc.mpr ⟨q1, e⟩, q2⟩)
  by_cases hc : c ∈ kept
  · have up : ∀ {u v : Nat}, Cn (edg ws (outc c kept)) u v → Cn (edg ws (outc c F)) u v := fun z => z.mono (edg_mono fun x hx => mem_outc.mpr ⟨hk x (mem_outc.mp hx).1, (mem_outc.mp hx).2⟩)
    rcases Cn.snoc_iff.mp h3 with q | ⟨q1, q2⟩ | ⟨q1, q2⟩
    · exact q
    · exact absurd (((up q1).symm.trans h2).trans (up q2).symm) (FO.br c (hk c hc))
    · exact absurd (((up q2).trans h2.symm).trans (up q1)) (FO.br c (hk c hc))
  · exact h1.mono (edg_mono fun x hx => mem_outc.mpr ⟨hx, fun e => hc (by rw [← e]; exact hx)⟩)
/-- the taken ways -/
def tkn (S : Gs) : List Nat := S.taken.map (·.2)
structure TkOk (ws : Wl) (S : Gs) : Prop where
  h : S.h = hom ws (tkn S)
  fo : Fo ws (tkn S)
  lt : ∀ c ∈ tkn S, c < ws.length
theorem TkOk.take {n : Nat} {ws : Wl} {S : Gs} {c : Nat} (W : Wf n ws) (T : TkOk ws S) (hc : c < ws.length) (hx : crosses ws S c = true) : TkOk ws (take1 ws S c) := by
  have e : tkn (take1 ws S c) = tkn S ++ [c] := by unfold tkn take1; rw [List.map_append]; rfl
  have ok := (wy_ok W hc).2
  refine ⟨?_, ?_, fun x hx => ?_⟩
  · rw [e, hom_snoc, ← T.h]; rfl
  · rw [e]
    refine T.fo.snoc fun z => ?_
    have := ((hom_ok W (tkn S) T.lt).iff _ _ (Nat.lt_trans ok.1 ok.2.1) ok.2.1).mpr z
    rw [← T.h] at this
    exact of_decide_eq_true hx this
  · rw [e] at hx
    rcases List.mem_append.mp hx with q | q
    · exact T.lt x q
    · rw [List.mem_singleton.mp q]; exact hc
theorem TkOk.takeAll {n : Nat} {ws : Wl} (W : Wf n ws) : ∀ (k : Nat) {S : Gs}, TkOk ws S → TkOk ws (takeAll ws k S)
  | 0, S, T => T
  | k + 1, S, T => by
    cases e : first ws S with
    | none => rw [takeAll_stop e]; exact T
    | some c =>
      rw [takeAll_go e]
      obtain ⟨hc, hx, _⟩ := first_some e
      exact TkOk.takeAll W k (T.take W hc hx)
theorem TkOk.start (ws : Wl) : TkOk ws Mw.start := ⟨rfl, Fo.nil ws, fun c h => nomatch h⟩
theorem TkOk.gro {n : Nat} {ws : Wl} {ps : List Pr} (W : Wf n ws) : ∀ (k : Nat) (S : Gs) (L : List Rw), TkOk ws S → TkOk ws (gro n ws ps k S L).1
  | 0, S, L, T => T
  | k + 1, S, L, T => by
    by_cases h : opens n ps S.h = []
    · rw [gro_stop h]; exact T
    · have e : Mw.gro n ws ps (k + 1) S L = Mw.gro n ws ps k (turn n ws ps S) (L ++ [((turn n ws ps S).time, (turn n ws ps S).h)]) := if_neg h
      rw [e]
      refine TkOk.gro W k _ _ (TkOk.takeAll W n ?_)
      exact ⟨T.h, T.fo, T.lt⟩
theorem gro_end {n : Nat} {ws : Wl} {ps : List Pr} (W : WsOk n ws) (J : ∀ q ∈ ps, Cn (wedges ws) q.1 q.2) : ∀ (k t : Nat) (S : Gs) (L : List Rw), GF n ws t S → k + t = n → opens n ps (gro n ws ps k S L).1.h = []
  | 0, t, S, L, G, e => by
    have := G.c
    show opens n ps S.h = []
    have hr : reps S.h n = [] := List.eq_nil_of_length_eq_zero (by omega)
    unfold opens; rw [hr]; rfl
  | k + 1, t, S, L, G, e => by
    by_cases h : opens n ps S.h = []
    · rw [gro_stop h]; exact h
    · have e2 : gro n ws ps (k + 1) S L = gro n ws ps k (turn n ws ps S) (L ++ [((turn n ws ps S).time, (turn n ws ps S).h)]) := if_neg h
      rw [e2]
      exact gro_end W J k (t + 1) _ _ (G.turn W J h).2 (by omega)
/-- all pairs are joined in the end -/
theorem opens_jn {n : Nat} {ws : Wl} {ps : List Pr} {S : Gs} {es : List (Nat × Nat)} (HM : Hom n es S.h) (ok : PsOk n ps) (h : opens n ps S.h = []) : ∀ p ∈ ps, S.h p.1 = S.h p.2 := fun p hp => Classical.byContradiction fun z => by
  obtain ⟨o1, o2⟩ := ok.ok p hp
  have h1 : p.1 < n := by omega
  have hm : S.h p.1 ∈ opens n ps S.h := by
    unfold opens
    refine List.mem_filter.mpr ⟨mem_reps'.mpr ⟨Nat.lt_of_le_of_lt (HM.le _ h1) h1, HM.idem _ h1⟩, List.any_eq_true.mpr ⟨p, hp, ?_⟩⟩
    unfold parted
    rw [decide_eq_true rfl, decide_eq_false fun y => z y.symm]; rfl
  rw [h] at hm; cases hm
abbrev tkF (n : Nat) (ws : Wl) (ps : List Pr) : List Nat := tkn (allGro n ws ps).1
theorem tkF_ok {n : Nat} {ws : Wl} {ps : List Pr} (W : Wf n ws) (ok : PsOk n ps) (J : ∀ q ∈ ps, Cn (wedges ws) q.1 q.2) : TkOk ws (allGro n ws ps).1 ∧ jn ws (tkF n ws ps) ps = true ∧ (tkF n ws ps).length ≤ n := by
  have Wo := wf_ok W
  have T := TkOk.gro (ps := ps) W n start [(0, start.h)] (TkOk.start ws)
  obtain ⟨t, GG, _⟩ := allGro_GF (ps := ps) Wo J
  refine ⟨T, ?_, by have := GG.tk; unfold tkF tkn; rw [List.length_map]; omega⟩
  have he := gro_end (ps := ps) Wo J n 0 start [(0, start.h)] (GF.start Wo) (Nat.add_zero n)
  obtain ⟨es, HM⟩ := GG.g.hom
  have h2 := opens_jn (ws := ws) HM ok he
  unfold jn
  rw [List.all_eq_true]
  intro p hp
  have h3 := h2 p hp
  have h4 : (allGro n ws ps).1.h = hom ws (tkF n ws ps) := T.h
  unfold jn1
  rw [← h4]; exact decide_eq_true h3
def need (n : Nat) (ws : Wl) (ps : List Pr) (c : Nat) : Bool := !jn ws (outc c (tkF n ws ps)) ps
def tkS (n : Nat) (ws : Wl) (ps : List Pr) : List Nat := (List.range ws.length).filter fun c => decide (c ∈ tkF n ws ps)
def toldL (n : Nat) (ws : Wl) (ps : List Pr) : List Nat := (tkS n ws ps).filter (need n ws ps)
theorem tkS_pw (n : Nat) (ws : Wl) (ps : List Pr) : (tkS n ws ps).Pairwise (· < ·) := (range_pw _).filter _
theorem toldL_pw (n : Nat) (ws : Wl) (ps : List Pr) : (toldL n ws ps).Pairwise (· < ·) := (tkS_pw n ws ps).filter _
theorem mem_tkS {n : Nat} {ws : Wl} {ps : List Pr} (T : TkOk ws (allGro n ws ps).1) {c : Nat} : c ∈ tkS n ws ps ↔ c ∈ tkF n ws ps := by
  unfold tkS; rw [List.mem_filter, List.mem_range, decide_eq_true_eq]
  exact ⟨fun h => h.2, fun h => ⟨T.lt c h, h⟩⟩
theorem mem_told {n : Nat} {ws : Wl} {ps : List Pr} (T : TkOk ws (allGro n ws ps).1) {c : Nat} : c ∈ toldL n ws ps ↔ c ∈ tkF n ws ps ∧ need n ws ps c = true := by
  unfold toldL; rw [List.mem_filter, mem_tkS T]
/-- what is left when the ways of dn were looked at -/
def keptL (n : Nat) (ws : Wl) (ps : List Pr) (dn : List Nat) : List Nat := (tkS n ws ps).filter fun x => decide (x ∉ dn) || need n ws ps x
theorem kept_step {n : Nat} {ws : Wl} {ps : List Pr} (W : Wf n ws) (ok : PsOk n ps) (T : TkOk ws (allGro n ws ps).1) {dn : List Nat} {c : Nat} (hc : c ∈ tkF n ws ps) (hd : c ∉ dn) (j : jn ws (keptL n ws ps dn) ps = true) :
    (jn ws (outc c (keptL n ws ps dn)) ps = true → keptL n ws ps (dn ++ [c]) = outc c (keptL n ws ps dn)) ∧ (jn ws (outc c (keptL n ws ps dn)) ps = false → keptL n ws ps (dn ++ [c]) = keptL n ws ps dn) ∧ jn ws (keptL n ws ps (dn ++ [c])) ps = true := by
  have kin : ∀ x ∈ keptL n ws ps dn, x ∈ tkF n ws ps := fun x hx => (mem_tkS T).mp (List.mem_filter.mp hx).1
  have h1 : need n ws ps c = false → keptL n ws ps (dn ++ [c]) = outc c (keptL n ws ps dn) := fun hn => by
    unfold keptL outc
    rw [List.filter_filter]
    refine List.filter_congr fun x hx => ?_
    by_cases e : x = c
    · subst e
      simp [hn]
    · simp [e]
  have h2 : need n ws ps c = true → keptL n ws ps (dn ++ [c]) = keptL n ws ps dn := fun hn => by
    unfold keptL
    refine List.filter_congr fun x hx => ?_
    by_cases e : x = c
    · subst e
      simp [hn]
    · simp [e]
  cases hn : need n ws ps c with
  | false =>
    have jc : jn ws (outc c (tkF n ws ps)) ps = true := by
      unfold need at hn
      cases q : jn ws (outc c (tkF n ws ps)) ps with
      | true => rfl
      | false => rw [q] at hn; cases hn
    have jp := prune W ok T.fo T.lt kin j jc
    exact ⟨fun _ => h1 hn, fun q => by rw [jp] at q; (first | cases q | exact absurd q (by simp)), by rw [h1 hn]; exact jp⟩
  | true =>
    have jc : jn ws (outc c (tkF n ws ps)) ps = false := by
      unfold need at hn
      cases q : jn ws (outc c (tkF n ws ps)) ps with
      | true => rw [q] at hn; cases hn
      | false => rfl
    refine ⟨fun q => ?_, fun _ => h2 hn, by rw [h2 hn]; exact j⟩
    have := jn_mono W ok (fun x hx => T.lt x (mem_outc.mp hx).1) (fun x hx => mem_outc.mpr ⟨kin x (mem_outc.mp hx).1, (mem_outc.mp hx).2⟩) q
    rw [jc] at this; cases this
theorem kept_all {n : Nat} {ws : Wl} {ps : List Pr} (T : TkOk ws (allGro n ws ps).1) {dn : List Nat} (h : ∀ x ∈ tkF n ws ps, x ∈ dn) : keptL n ws ps dn = toldL n ws ps := by
  unfold keptL toldL
  refine List.filter_congr fun x hx => ?_
  have := h x ((mem_tkS T).mp hx)
  simp [this]
theorem kept_nil (n : Nat) (ws : Wl) (ps : List Pr) : keptL n ws ps [] = tkS n ws ps := by
  unfold keptL
  exact List.filter_eq_self.mpr fun x _ => by simp
theorem tkS_jn {n : Nat} {ws : Wl} {ps : List Pr} (W : Wf n ws) (ok : PsOk n ps) (T : TkOk ws (allGro n ws ps).1) (j : jn ws (tkF n ws ps) ps = true) : jn ws (tkS n ws ps) ps = true :=
  jn_mono W ok (fun c hc => T.lt c ((mem_tkS T).mp hc)) (fun x hx => (mem_tkS T).mpr hx) j
/-- told joins, and none is spare -/
theorem told_jn {n : Nat} {ws : Wl} {ps : List Pr} (W : Wf n ws) (ok : PsOk n ps) (T : TkOk ws (allGro n ws ps).1) (j : jn ws (tkF n ws ps) ps = true) : jn ws (toldL n ws ps) ps = true := by
  have key : ∀ l : List Nat, l.Nodup → (∀ x ∈ l, x ∈ tkF n ws ps) → ∀ dn : List Nat, (∀ x ∈ l, x ∉ dn) → jn ws (keptL n ws ps dn) ps = true → jn ws (keptL n ws ps (dn ++ l)) ps = true := by
    intro l
    induction l with
    | nil => intro _ _ dn _ h; rw [List.append_nil]; exact h
    | cons c l ih =>
      intro nd hin dn hdn h
      obtain ⟨n1, n2⟩ := List.nodup_cons.mp nd
      have h3 := (kept_step W ok T (hin c List.mem_cons_self) (hdn c List.mem_cons_self) h).2.2
      have := ih n2 (fun x hx => hin x (List.mem_cons_of_mem _ hx)) (dn ++ [c]) (fun x hx q => by
        rcases List.mem_append.mp q with q | q
        · exact hdn x (List.mem_cons_of_mem _ hx) q
        · exact n1 (by rw [← List.mem_singleton.mp q]; exact hx)) h3
      rw [List.append_assoc] at this
      exact this
  have := key (tkF n ws ps) T.fo.nd (fun x hx => hx) [] (fun x _ h => nomatch h) (by rw [kept_nil]; exact tkS_jn W ok T j)
  rw [List.nil_append, kept_all T fun x hx => hx] at this
  exact this
theorem told_spr {n : Nat} {ws : Wl} {ps : List Pr} (W : Wf n ws) (ok : PsOk n ps) (T : TkOk ws (allGro n ws ps).1) : spr ws (toldL n ws ps) ps = none := by
  refine find_no fun c hc => ?_
  obtain ⟨h1, h2⟩ := (mem_told T).mp hc
  unfold need at h2
  cases q : jn ws (outc c (toldL n ws ps)) ps with
  | false => rfl
  | true =>
    have := jn_mono W ok (fun x hx => T.lt x (mem_outc.mp hx).1) (fun x hx => mem_outc.mpr ⟨((mem_told T).mp (mem_outc.mp hx).1).1, (mem_outc.mp hx).2⟩) q
    rw [this] at h2; cases h2
theorem told_ch {n : Nat} {ws : Wl} {ps : List Pr} (T : TkOk ws (allGro n ws ps).1) : Ch ws.length (toldL n ws ps) := ⟨fun c hc => T.lt c ((mem_told T).mp hc).1, toldL_pw n ws ps⟩
theorem sort_all {ns : List Int} {f l : List Nat} (h : ns.Perm (f.map fun x : Nat => (x : Int))) (s : ns.Pairwise (· ≤ ·)) (nd : f.Nodup) (pl : l.Pairwise (· < ·)) (hl : ∀ x, x ∈ l ↔ x ∈ f) : ns = l.map fun x : Nat => (x : Int) := by
  obtain ⟨l', e, p, hm⟩ := sort_nats h s nd
  rw [e, sorted_ext p pl fun x => (hm x).trans (hl x).symm]
theorem TkL.at_ {K : PySem.W.Frag} {H : Hp} : ∀ {l : List (Int × Nat)} {vs : List V} {i : Nat} {t : Int} {c : Nat}, TkL K H l vs → l[i]? = some (t, c) → ∃ a tv, vs[i]? = some (V.ref a) ∧ H a = some (.tup [tv, .int (c : Nat)])
  | [], vs, i, t, c, _, e => by simp at e
  | (s, d) :: r, vs, 0, t, c, ⟨a, tv, us, e, h1, h2, h3⟩, q => by
    subst e
    have : (s, d) = (t, c) := by simpa using q
    injection this with e1 e2
    subst e1 e2
    exact ⟨a, tv, rfl, h1⟩
  | (s, d) :: r, vs, i + 1, t, c, ⟨a, tv, us, e, h1, h2, h3⟩, q => by
    subst e
    obtain ⟨b, bv, q1, q2⟩ := TkL.at_ (i := i) h3 (by simpa using q)
    exact ⟨b, bv, by simpa using q1, q2⟩
def spWithout (T : List Addr) : Sp := fun vs H Q _ => ∃ (ch : V) (cs : List Nat) (c : Nat), vs = [ch, .int (c : Nat)] ∧ Rp H (chD cs) ch ∧ cs.length ≤ 24 ∧ Wd T H ∧ ∀ u H', Rp H' (chD (outc c cs)) u → Ext T noM H H' → Q u H'
def spJoins (T : List Addr) : Sp := fun vs H Q _ => ∃ (net pz ch : V) (n : Nat) (ws : List Wy) (cs : List Nat) (ps : List Pr), vs = [net, pz, ch] ∧ Task H n ws cs net ch ∧ Rp H (pairsD ps) pz ∧ PsOk n ps ∧ Wd T H ∧ ∀ H', Ext T noM H H' → Q (.bl (jn ws cs ps)) H'
def spSpare (T : List Addr) : Sp := fun vs H Q _ => ∃ (net pz ch : V) (n : Nat) (ws : List Wy) (cs : List Nat) (ps : List Pr), vs = [net, pz, ch] ∧ Task H n ws cs net ch ∧ Rp H (pairsD ps) pz ∧ PsOk n ps ∧ Wd T H ∧ ∀ H', Ext T noM H H' → Q (optV (spr ws cs ps)) H'

def spTold (T : List Addr) : Sp := fun vs H Q _ => ∃ (net pz : V) (n : Nat) (ws : Wl) (ps : List Pr), vs = [net, pz] ∧ Wf n ws ∧ Rp H (netD n ws) net ∧ Rp H (pairsD ps) pz ∧ PsOk n ps ∧ (∀ q ∈ ps, Cn (wedges ws) q.1 q.2) ∧ Wd T H ∧
  ∀ u H', Rp H' (chD (toldL n ws ps)) u → Ext T noM H H' → Q u H'
def spLTold (T : List Addr) : Sp := fun vs H Q _ => ∃ (net pz : V) (n : Nat) (ws : Wl) (ps : List Pr), vs = [net, pz] ∧ Wf n ws ∧ Rp H (netD n ws) net ∧ Rp H (pairsD ps) pz ∧ PsOk n ps ∧ (∀ q ∈ ps, Cn (wedges ws) q.1 q.2) ∧
  ∀ u H', Rp H' (chD (toldL n ws ps)) u → Ext T noM H H' → Q u H'
section
variable {P : Program} {w : World} {K : PySem.W.Frag} {mg : Str → Option Value} {base : Heap} {T : List Addr} {aC : Addr}
end
end Mw

set_option Elab.async false
set_option linter.all false
set_option maxRecDepth 100000
set_option maxHeartbeats 4000000
namespace Mw
open PySem PySem.Spec PyProof.Rows L2 GE
/-! ### why twice is enough -/
theorem sub_len {α : Type} [DecidableEq α] : ∀ {l m : List α}, l.Nodup → (∀ x ∈ l, x ∈ m) → l.length ≤ m.length
  | [], m, _, _ => Nat.zero_le _
  | x :: l, m, nd, h => by
    obtain ⟨n1, n2⟩ := List.nodup_cons.mp nd
    have hx := h x List.mem_cons_self
    have h2 := sub_len (m := m.erase x) n2 fun y hy => (List.mem_erase_of_ne (fun z => n1 (by rw [← z]; exact hy))).mpr (h y (List.mem_cons_of_mem _ hy))
    have := List.length_erase_of_mem hx
    have : 0 < m.length := List.length_pos_of_mem hx
    rw [List.length_cons]; omega
def b2n (b : Bool) : Nat := if b = true then 1 else 0
theorem filter_sum {α : Type} (f : α → Bool) : ∀ l : List α, (l.filter f).length = (l.map fun x => b2n (f x)).sum
  | [] => rfl
  | x :: l => by
    rw [List.filter_cons, List.map_cons, List.sum_cons, ← filter_sum f l]
    unfold b2n
    by_cases h : f x = true
    · rw [if_pos h, if_pos h, List.length_cons]; omega
    · rw [if_neg h, if_neg h]; omega
theorem sum_add {α : Type} (f g : α → Nat) : ∀ l : List α, (l.map fun x => f x + g x).sum = (l.map f).sum + (l.map g).sum
  | [] => rfl
  | x :: l => by
    have := sum_add f g l
    simp only [List.map_cons, List.sum_cons]; omega
theorem sum_zero {α : Type} : ∀ l : List α, (l.map fun _ => 0).sum = 0
  | [] => rfl
  | x :: l => by rw [List.map_cons, List.sum_cons, sum_zero l]
/-- counted twice -/
theorem sum_swap {α β : Type} (f : α → β → Nat) (m : List β) : ∀ l : List α, (l.map fun x => (m.map (f x)).sum).sum = (m.map fun y => (l.map fun x => f x y).sum).sum
  | [] => (sum_zero m).symm
  | x :: l => by
    simp only [List.map_cons, List.sum_cons]
    rw [sum_swap f m l, sum_add]
theorem sum_le_sum {α : Type} {f g : α → Nat} : ∀ {l : List α}, (∀ x ∈ l, f x ≤ g x) → (l.map f).sum ≤ (l.map g).sum
  | [], _ => Nat.le_refl _
  | x :: l, h => by
    have h1 := h x List.mem_cons_self
    have h2 := sum_le_sum (l := l) fun y hy => h y (List.mem_cons_of_mem _ hy)
    simp only [List.map_cons, List.sum_cons]; omega
theorem sum_eq_sum {α : Type} {f g : α → Nat} {l : List α} (h : ∀ x ∈ l, f x = g x) : (l.map f).sum = (l.map g).sum := by rw [List.map_congr_left h]
/-- just one end in the group of r -/
def cut1 (ws : Wl) (h : Nat → Nat) (r c : Nat) : Bool := decide (h (way ws c).1 = r) != decide (h (way ws c).2.1 = r)
def dgr (ws : Wl) (h : Nat → Nat) (C : List Nat) (r : Nat) : Nat := (C.filter (cut1 ws h r)).length
def crs (ws : Wl) (h : Nat → Nat) (c : Nat) : Bool := decide (h (way ws c).1 ≠ h (way ws c).2.1)
/-- a sum over distinct members of one member's number -/
theorem sum_pick {l : List Nat} {a : Nat} (nd : l.Nodup) (ha : a ∈ l) : (l.map fun r => b2n (decide (a = r))).sum = 1 := by
  induction l with
  | nil => cases ha
  | cons x l ih =>
    obtain ⟨n1, n2⟩ := List.nodup_cons.mp nd
    simp only [List.map_cons, List.sum_cons]
    by_cases e : a = x
    · subst e
      have : (l.map fun r => b2n (decide (a = r))).sum = (l.map fun _ => 0).sum := sum_eq_sum fun y hy => by
        rw [decide_eq_false (fun z => n1 (by rw [z]; exact hy))]; rfl
      rw [this, sum_zero, decide_eq_true rfl]; rfl
    · have := ih n2 (by rcases List.mem_cons.mp ha with z | z; exact absurd z e; exact z)
      rw [this, decide_eq_false e]; rfl
theorem cut_sum {n : Nat} {ws : Wl} {h : Nat → Nat} {es : List (Nat × Nat)} (HM : Hom n es h) {c : Nat} (ha : (way ws c).1 < n) (hb : (way ws c).2.1 < n) : ((reps h n).map fun r => b2n (cut1 ws h r c)).sum = if crs ws h c = true then 2 else 0 := by
  have ma : h (way ws c).1 ∈ reps h n := mem_reps'.mpr ⟨Nat.lt_of_le_of_lt (HM.le _ ha) ha, HM.idem _ ha⟩
  have mb : h (way ws c).2.1 ∈ reps h n := mem_reps'.mpr ⟨Nat.lt_of_le_of_lt (HM.le _ hb) hb, HM.idem _ hb⟩
  have nd := reps_nodup h n
  unfold crs
  by_cases e : h (way ws c).1 = h (way ws c).2.1
  · rw [if_neg (by simp [e])]
    rw [← sum_zero (reps h n)]
    refine sum_eq_sum fun r _ => ?_
    unfold cut1; rw [e]; simp [b2n]
  · rw [if_pos (decide_eq_true e)]
    have h1 := sum_pick nd ma
    have h2 := sum_pick nd mb
    have h3 := sum_add (fun r => b2n (decide (h (way ws c).1 = r))) (fun r => b2n (decide (h (way ws c).2.1 = r))) (reps h n)
    rw [h1, h2] at h3
    rw [show (2 : Nat) = 1 + 1 from rfl, ← h3]
    refine sum_eq_sum fun r _ => ?_
    unfold cut1 b2n
    by_cases q1 : h (way ws c).1 = r <;> by_cases q2 : h (way ws c).2.1 = r
    · exact absurd (q1.trans q2.symm) e
    · simp [q1, q2]
    · simp [q1, q2]
    · simp [q1, q2]
theorem reps_one {n : Nat} {es : List (Nat × Nat)} {h : Nat → Nat} (HM : Hom n es h) {a b : Nat} (ha : a < n) (hb : b < n) (hne : h a ≠ h b) : (reps (relab h a b) n).length + 1 = (reps h n).length := by
  have hp := (reps_join HM ha hb hne).length_eq
  rw [List.length_append, List.length_singleton] at hp
  have ma : h a ∈ reps h n := mem_reps'.mpr ⟨Nat.lt_of_le_of_lt (HM.le _ ha) ha, HM.idem _ ha⟩
  have mb : h b ∈ reps h n := mem_reps'.mpr ⟨Nat.lt_of_le_of_lt (HM.le _ hb) hb, HM.idem _ hb⟩
  have nd := reps_nodup h n
  have h1 := sum_pick nd ma
  have h2 := sum_pick nd mb
  have h3 := sum_add (fun r => b2n (decide (h a = r))) (fun r => b2n (decide (h b = r))) (reps h n)
  have h4 := sum_add (fun r => b2n (decide (h a = r)) + b2n (decide (h b = r))) (fun r => b2n (decide (r ≠ h a) && decide (r ≠ h b))) (reps h n)
  have h5 : ((reps h n).map fun r => b2n (decide (h a = r)) + b2n (decide (h b = r)) + b2n (decide (r ≠ h a) && decide (r ≠ h b))).sum = ((reps h n).map fun _ => 1).sum := sum_eq_sum fun r _ => by
    unfold b2n
    by_cases q1 : h a = r <;> by_cases q2 : h b = r
    · exact absurd (q1.trans q2.symm) hne
    · have : ¬ r = h b := fun z => q2 z.symm
      simp [q1, q2]
    · have : ¬ r = h a := fun z => q1 z.symm
      simp [q1, q2]
    · have z1 : ¬ r = h b := fun z => q2 z.symm
      have z2 : ¬ r = h a := fun z => q1 z.symm
      simp [q1, q2, z1, z2]
  have h6 : ((reps h n).map fun _ => 1).sum = (reps h n).length := by
    have : ∀ l : List Nat, (l.map fun _ => 1).sum = l.length := fun l => by
      induction l with
      | nil => rfl
      | cons x l ih => rw [List.map_cons, List.sum_cons, ih, List.length_cons]; omega
    exact this _
  rw [← filter_sum] at h4
  omega
/-- ways of a forest beside others of it, each joining different groups -/
theorem reps_many {n : Nat} {ws : Wl} {F G : List Nat} (W : Wf n ws) (FO : Fo ws F) (hF : ∀ c ∈ F, c < ws.length) (hG : ∀ c ∈ G, c ∈ F) : ∀ E : List Nat, E.Nodup → (∀ c ∈ E, c ∈ F ∧ c ∉ G) → (reps (hom ws (G ++ E)) n).length + E.length = (reps (hom ws G) n).length := by
  have key : ∀ (k : Nat) (E : List Nat), E.length = k → E.Nodup → (∀ c ∈ E, c ∈ F ∧ c ∉ G) → (reps (hom ws (G ++ E)) n).length + E.length = (reps (hom ws G) n).length := by
    intro k
    induction k with
    | zero =>
      intro E hl _ _
      rw [List.eq_nil_of_length_eq_zero hl, List.append_nil]; rfl
    | succ k ih =>
      intro E hl nd hE
      have hne : E ≠ [] := fun z => by rw [z] at hl; cases hl
      have e := List.dropLast_concat_getLast hne
      generalize E.dropLast = D at e
      generalize E.getLast hne = c at e
      subst e
      rw [List.nodup_append] at nd
      obtain ⟨nd1', _, nd3⟩ := nd
      have hc := hE c (List.mem_append_right _ (List.mem_singleton.mpr rfl))
      have hcD : c ∉ D := fun z => nd3 c z c (List.mem_singleton.mpr rfl) rfl
      rw [List.length_append, List.length_singleton] at hl ⊢
      have ihD := ih D (by omega) nd1' fun x hx => hE x (List.mem_append_left _ hx)
      have hlt : ∀ x ∈ G ++ D, x < ws.length := fun x hx => by
        rcases List.mem_append.mp hx with z | z
        · exact hF x (hG x z)
        · exact hF x (hE x (List.mem_append_left _ z)).1
      have ok := (wy_ok W (hF c hc.1)).2
      have HM := hom_ok W (G ++ D) hlt
      have hcr : hom ws (G ++ D) (wyAt ws c).1 ≠ hom ws (G ++ D) (wyAt ws c).2.1 := fun z => by
        have := (HM.iff _ _ (Nat.lt_trans ok.1 ok.2.1) ok.2.1).mp z
        refine FO.br c hc.1 (this.mono (edg_mono fun x hx => mem_outc.mpr ⟨?_, fun y => ?_⟩))
        · rcases List.mem_append.mp hx with z | z
          · exact hG x z
          · exact (hE x (List.mem_append_left _ z)).1
        · subst y
          rcases List.mem_append.mp hx with z | z
          · exact hc.2 z
          · exact hcD z
      have := reps_one HM (Nat.lt_trans ok.1 ok.2.1) ok.2.1 hcr
      rw [← List.append_assoc, hom_snoc]
      omega
  exact fun E => key E.length E rfl
theorem sum_filter2 {α : Type} (f : α → Nat) (g : α → Bool) : ∀ l : List α, (l.map f).sum = ((l.filter g).map f).sum + ((l.filter fun x => !g x).map f).sum
  | [] => rfl
  | x :: l => by
    have := sum_filter2 f g l
    rw [List.map_cons, List.sum_cons, List.filter_cons, List.filter_cons]
    by_cases h : g x = true
    · rw [if_pos h, if_neg (by rw [h]; simp), List.map_cons, List.sum_cons]; omega
    · rw [if_neg h, if_pos (by rw [Bool.eq_false_iff.mpr h]; rfl), List.map_cons, List.sum_cons]; omega
theorem len_filter2 {α : Type} (g : α → Bool) : ∀ l : List α, l.length = (l.filter g).length + (l.filter fun x => !g x).length
  | [] => rfl
  | x :: l => by
    have := len_filter2 g l
    rw [List.length_cons, List.filter_cons, List.filter_cons]
    by_cases h : g x = true
    · rw [if_pos h, if_neg (by rw [h]; simp), List.length_cons]; omega
    · rw [if_neg h, if_pos (by rw [Bool.eq_false_iff.mpr h]; rfl), List.length_cons]; omega
theorem cut_iff {ws : Wl} {h : Nat → Nat} {r c : Nat} : cut1 ws h r c = false ↔ (h (way ws c).1 = r ↔ h (way ws c).2.1 = r) := by
  unfold cut1
  by_cases q1 : h (way ws c).1 = r <;> by_cases q2 : h (way ws c).2.1 = r <;> simp [q1, q2]
/-- ways none of which crosses: both or neither -/
theorem cut_inv {ws : Wl} {h : Nat → Nat} {r x y : Nat} {C : List Nat} (hC : ∀ c ∈ C, cut1 ws h r c = false) (z : Cn (edg ws C) x y) : h x = r ↔ h y = r :=
  z.inv (P := fun u => h u = r) fun e he => by
    obtain ⟨c, h1, h2⟩ := mem_edg.mp he
    rw [h2]
    exact cut_iff.mp (hC c h1)
theorem deg_open {n : Nat} {ws : Wl} {h : Nat → Nat} {C : List Nat} {ps : List Pr} {r : Nat} (W : Wf n ws) (ok : PsOk n ps) (hC : ∀ c ∈ C, c < ws.length) (j : jn ws C ps = true) (hr : ps.any (parted h r) = true) : 1 ≤ dgr ws h C r := by
  obtain ⟨p, hp, hq⟩ := List.any_eq_true.mp hr
  have hc := (jn_iff W ok hC).mp j p hp
  rcases Nat.eq_zero_or_pos (dgr ws h C r) with z | z
  · have hno : ∀ c ∈ C, cut1 ws h r c = false := fun c hc => by
      cases q : cut1 ws h r c with
      | false => rfl
      | true =>
        have : c ∈ C.filter (cut1 ws h r) := List.mem_filter.mpr ⟨hc, q⟩
        rw [List.eq_nil_of_length_eq_zero (show (C.filter (cut1 ws h r)).length = 0 from z)] at this
        cases this
    have := cut_inv hno hc
    unfold parted at hq
    by_cases q1 : h p.1 = r
    · simp [q1, this.mp q1] at hq
    · have q2 : ¬ h p.2 = r := fun y => q1 (this.mpr y)
      simp [q1, q2] at hq
  · exact z
theorem deg_closed {n : Nat} {ws : Wl} {h : Nat → Nat} {C : List Nat} {ps : List Pr} {r : Nat} (W : Wf n ws) (ok : PsOk n ps) (hC : ∀ c ∈ C, c < ws.length) (nd : C.Nodup) (j : jn ws C ps = true) (hn : ∀ c ∈ C, jn ws (outc c C) ps = false) (hr : ps.any (parted h r) = false) : dgr ws h C r ≠ 1 := fun e => by
  obtain ⟨c, hl⟩ : ∃ c, C.filter (cut1 ws h r) = [c] := by
    have e' : (C.filter (cut1 ws h r)).length = 1 := e
    match q : C.filter (cut1 ws h r), e' with
    | [c], _ => exact ⟨c, rfl⟩
  have hm : c ∈ C.filter (cut1 ws h r) := by rw [hl]; exact List.mem_singleton.mpr rfl
  obtain ⟨hcC, hcut⟩ := List.mem_filter.mp hm
  have hno : ∀ x ∈ outc c C, cut1 ws h r x = false := fun x hx => by
    obtain ⟨h1, h2⟩ := mem_outc.mp hx
    cases q : cut1 ws h r x with
    | false => rfl
    | true =>
      have : x ∈ C.filter (cut1 ws h r) := List.mem_filter.mpr ⟨h1, q⟩
      rw [hl] at this
      exact absurd (List.mem_singleton.mp this) h2
  have hol : ∀ x ∈ outc c C, x < ws.length := fun x hx => hC x (mem_outc.mp hx).1
  have hall : ∀ p ∈ ps, Cn (edg ws (outc c C)) p.1 p.2 := fun p hp => by
    have hpc := (jn_iff W ok hC).mp j p hp
    have h3 : Cn (edg ws (outc c C) ++ [((wyAt ws c).1, (wyAt ws c).2.1)]) p.1 p.2 := hpc.mono fun u hu => by
      obtain ⟨x, q1, q2⟩ := mem_edg.mp hu
      by_cases e : x = c
      · rw [q2, e]; exact List.mem_append_right _ (List.mem_singleton.mpr rfl)
      · exact List.mem_append_left _ (mem_edg.mpr ⟨x, mem_outc.mpr ⟨q1, e⟩, q2⟩)
    have hpr : parted h r p = false := by
      cases q : parted h r p with
      | false => rfl
      | true => rw [List.any_eq_true.mpr ⟨p, hp, q⟩] at hr; cases hr
    have hpi : h p.1 = r ↔ h p.2 = r := by
      unfold parted at hpr
      by_cases q1 : h p.1 = r <;> by_cases q2 : h p.2 = r <;> simp [q1, q2] at hpr ⊢
    have hcc : ¬ (h (wyAt ws c).1 = r ↔ h (wyAt ws c).2.1 = r) := fun z => by rw [show cut1 ws h r c = false from cut_iff.mpr z] at hcut; cases hcut
    rcases Cn.snoc_iff.mp h3 with q | ⟨q1, q2⟩ | ⟨q1, q2⟩
    · exact q
    · exact absurd (((cut_inv hno q1).symm.trans hpi).trans (cut_inv hno q2).symm) hcc
    · exact absurd (((cut_inv hno q2).trans hpi.symm).trans (cut_inv hno q1)) hcc
  have := (jn_iff W ok hol).mpr hall
  rw [hn c hcC] at this; cases this
theorem count {n : Nat} {ws : Wl} {F G C : List Nat} {ps : List Pr} (W : Wf n ws) (ok : PsOk n ps) (FO : Fo ws F) (hF : ∀ c ∈ F, c < ws.length) (hG : ∀ c ∈ G, c ∈ F) (hC : ∀ c ∈ C, c ∈ F) (nd : C.Nodup) (j : jn ws C ps = true) (hn : ∀ c ∈ C, jn ws (outc c C) ps = false)
    (hR : opens n ps (hom ws G) ≠ []) : ((opens n ps (hom ws G)).map (dgr ws (hom ws G) C)).sum + 2 ≤ 2 * (opens n ps (hom ws G)).length ∧ ∀ r ∈ opens n ps (hom ws G), 1 ≤ dgr ws (hom ws G) C r := by
  have hCl : ∀ c ∈ C, c < ws.length := fun c hc => hF c (hC c hc)
  have hGl : ∀ c ∈ G, c < ws.length := fun c hc => hF c (hG c hc)
  have HM := hom_ok W G hGl
  generalize hh : hom ws G = h at *
  have hop : ∀ r ∈ opens n ps h, 1 ≤ dgr ws h C r := fun r hr => deg_open W ok hCl j (List.mem_filter.mp hr).2
  refine ⟨?_, hop⟩
  have wl : ∀ c ∈ C, (way ws c).1 < n ∧ (way ws c).2.1 < n := fun c hc => by
    have := (wy_ok W (hCl c hc)).2
    exact ⟨Nat.lt_trans this.1 this.2.1, this.2.1⟩
  -- all groups together
  have s1 : ((reps h n).map (dgr ws h C)).sum = 2 * (C.filter (crs ws h)).length := by
    have e1 : (reps h n).map (dgr ws h C) = (reps h n).map fun r => (C.map fun c => b2n (cut1 ws h r c)).sum := List.map_congr_left fun r _ => filter_sum _ _
    rw [e1, sum_swap (fun r c => b2n (cut1 ws h r c)) C (reps h n), filter_sum]
    have e2 : (C.map fun c => ((reps h n).map fun r => b2n (cut1 ws h r c)).sum).sum = (C.map fun c => b2n (crs ws h c) + b2n (crs ws h c)).sum := sum_eq_sum fun c hc => by
      rw [cut_sum HM (wl c hc).1 (wl c hc).2]; unfold b2n; split <;> rfl
    rw [e2, sum_add]; omega
  have hEnd : (C.filter (crs ws h)).Nodup := nd.filter _
  have hEm : ∀ c ∈ C.filter (crs ws h), c ∈ F ∧ c ∉ G := fun c hc => by
    obtain ⟨h1, h2⟩ := List.mem_filter.mp hc
    refine ⟨hC c h1, fun z => ?_⟩
    have := (HM.iff _ _ (wl c h1).1 (wl c h1).2).mpr (edg_in z)
    exact of_decide_eq_true h2 this
  have s2 := reps_many W FO hF hG _ hEnd hEm
  rw [hh] at s2
  -- the groups that no chosen way leaves
  obtain ⟨r0, hr0⟩ := List.exists_mem_of_ne_nil _ hR
  have hd0 := hop r0 hr0
  obtain ⟨c0, hc0⟩ : ∃ c0, c0 ∈ C.filter (cut1 ws h r0) := List.exists_mem_of_ne_nil _ fun z => by
    have : dgr ws h C r0 = 0 := by unfold dgr; rw [z]; rfl
    omega
  obtain ⟨hc0C, hc0x⟩ := List.mem_filter.mp hc0
  have hc0E : c0 ∈ C.filter (crs ws h) := List.mem_filter.mpr ⟨hc0C, decide_eq_true fun z => by
    have : cut1 ws h r0 c0 = false := cut_iff.mpr (by rw [z])
    rw [hc0x] at this; cases this⟩
  have hlt : ∀ x ∈ G ++ C.filter (crs ws h), x < ws.length := fun x hx => by
    rcases List.mem_append.mp hx with z | z
    · exact hGl x z
    · exact hF x (hEm x z).1
  have HE := hom_ok W (G ++ C.filter (crs ws h)) hlt
  have hZ : ∀ r ∈ (reps h n).filter (fun r => decide (dgr ws h C r = 0)), hom ws (G ++ C.filter (crs ws h)) r = r ∧ ∀ x, x < n → (hom ws (G ++ C.filter (crs ws h)) x = r → h x = r) := fun r hr => by
    obtain ⟨h1, h2⟩ := List.mem_filter.mp hr
    have h2 := of_decide_eq_true h2
    obtain ⟨rn, rr⟩ := mem_reps'.mp h1
    have hno : ∀ c ∈ G ++ C.filter (crs ws h), cut1 ws h r c = false := fun c hc => by
      rcases List.mem_append.mp hc with z | z
      · have okc := (wy_ok W (hGl c z)).2
        have := (HM.iff _ _ (Nat.lt_trans okc.1 okc.2.1) okc.2.1).mpr (edg_in z)
        have this : h (way ws c).1 = h (way ws c).2.1 := this
        exact cut_iff.mpr (by rw [this])
      · cases q : cut1 ws h r c with
        | false => rfl
        | true =>
          have : c ∈ C.filter (cut1 ws h r) := List.mem_filter.mpr ⟨(List.mem_filter.mp z).1, q⟩
          rw [List.eq_nil_of_length_eq_zero (show (C.filter (cut1 ws h r)).length = 0 from h2)] at this
          cases this
    have conn : ∀ x y, Cn (edg ws (G ++ C.filter (crs ws h))) x y → (h x = r ↔ h y = r) := fun x y z => cut_inv hno z
    have hr' : hom ws (G ++ C.filter (crs ws h)) r < n := Nat.lt_of_le_of_lt (HE.le r rn) rn
    have c1 := (HE.iff _ _ hr' rn).mp (HE.idem r rn)
    have c2 := (conn _ _ c1).mpr rr
    have c3 := HM.le _ hr'
    have c4 := HE.le r rn
    refine ⟨by omega, fun x hx e => ?_⟩
    have e2 : hom ws (G ++ C.filter (crs ws h)) x = hom ws (G ++ C.filter (crs ws h)) r := by rw [e]; omega
    exact (conn _ _ ((HE.iff _ _ hx rn).mp e2)).mpr rr
  have a0 := (wl c0 hc0C).1
  have s3 : ((reps h n).filter (fun r => decide (dgr ws h C r = 0))).length + 1 ≤ (reps (hom ws (G ++ C.filter (crs ws h))) n).length := by
    have : ((reps h n).filter (fun r => decide (dgr ws h C r = 0)) ++ [hom ws (G ++ C.filter (crs ws h)) (way ws c0).1]).length ≤ (reps (hom ws (G ++ C.filter (crs ws h))) n).length := by
      refine sub_len ?_ fun x hx => ?_
      · rw [List.nodup_append]
        refine ⟨(reps_nodup h n).filter _, List.nodup_cons.mpr ⟨(fun h => nomatch h), List.nodup_nil⟩, fun x hx y hy e => ?_⟩
        have e2 := List.mem_singleton.mp hy
        subst e
        have h3 := (hZ x hx).2 _ a0 e2.symm
        have h4 := of_decide_eq_true (List.mem_filter.mp hx).2
        have : c0 ∈ C.filter (cut1 ws h x) := List.mem_filter.mpr ⟨hc0C, by
          cases q : cut1 ws h x c0 with
          | true => rfl
          | false =>
            have := (cut_iff.mp q).mp h3
            exact absurd (h3.trans this.symm) (of_decide_eq_true (List.mem_filter.mp hc0E).2)⟩
        rw [List.eq_nil_of_length_eq_zero (show (C.filter (cut1 ws h x)).length = 0 from h4)] at this
        cases this
      · rcases List.mem_append.mp hx with z | z
        · obtain ⟨h1, _⟩ := List.mem_filter.mp z
          exact mem_reps'.mpr ⟨(mem_reps'.mp h1).1, (hZ x z).1⟩
        · rw [List.mem_singleton.mp z]
          exact mem_reps'.mpr ⟨Nat.lt_of_le_of_lt (HE.le _ a0) a0, HE.idem _ a0⟩
    rw [List.length_append, List.length_singleton] at this
    exact this
  -- open and closed groups
  have s4 := sum_filter2 (dgr ws h C) (fun r => ps.any (parted h r)) (reps h n)
  have s5 := len_filter2 (fun r => ps.any (parted h r)) (reps h n)
  have s6 := len_filter2 (fun r => decide (dgr ws h C r = 0)) ((reps h n).filter fun r => !ps.any (parted h r))
  have s7 : ((reps h n).filter (fun r => decide (dgr ws h C r = 0))).length = (((reps h n).filter fun r => !ps.any (parted h r)).filter (fun r => decide (dgr ws h C r = 0))).length := by
    rw [List.filter_filter]
    congr 1
    refine List.filter_congr fun r hr => ?_
    by_cases q : ps.any (parted h r) = true
    · have := hop r (List.mem_filter.mpr ⟨hr, q⟩)
      rw [decide_eq_false (by omega), Bool.false_and]
    · rw [Bool.eq_false_iff.mpr q]; simp
  have s8 : 2 * (((reps h n).filter fun r => !ps.any (parted h r)).filter (fun r => !decide (dgr ws h C r = 0))).length ≤ (((reps h n).filter fun r => !ps.any (parted h r)).map (dgr ws h C)).sum := by
    rw [filter_sum]
    have : ∀ l : List Nat, (∀ r ∈ l, dgr ws h C r ≠ 1) → 2 * (l.map fun x => b2n (!decide (dgr ws h C x = 0))).sum ≤ (l.map (dgr ws h C)).sum := by
      intro l
      induction l with
      | nil => intro _; exact Nat.le_refl _
      | cons x l ih =>
        intro hl
        have h1 := ih fun r hr => hl r (List.mem_cons_of_mem _ hr)
        have h2 := hl x List.mem_cons_self
        simp only [List.map_cons, List.sum_cons]
        have h3 : 2 * b2n (!decide (dgr ws h C x = 0)) ≤ dgr ws h C x := by
          by_cases q : dgr ws h C x = 0
          · rw [q]; exact Nat.le_refl _
          · have : b2n (!decide (dgr ws h C x = 0)) = 1 := by unfold b2n; rw [decide_eq_false q]; rfl
            omega
        omega
    refine this _ fun r hr => ?_
    have := (List.mem_filter.mp hr).2
    exact deg_closed W ok hCl nd j hn (by simpa using this)
  have e1 : (reps h n).filter (fun r => ps.any (parted h r)) = opens n ps h := rfl
  rw [e1] at s4 s5
  omega
/-! ### the sums of a growth -/
def wt (wid : List (List Nat × Int)) : Int := (wid.map (·.2)).sum
def ld (ws : Wl) (C : List Nat) (wid : List (List Nat × Int)) : Int := (C.map fun c => xl ws c wid).sum
theorem xl_cons (ws : Wl) (c : Nat) (k : List Nat) (s : Int) (l : List (List Nat × Int)) : xl ws c ((k, s) :: l) = (if (decide ((way ws c).1 ∈ k) != decide ((way ws c).2.1 ∈ k)) = true then s else 0) + xl ws c l := by unfold xl; rw [List.map_cons, List.sum_cons]
theorem xl_add (ws : Wl) (c : Nat) (k : List Nat) (s : Int) : ∀ l : List (List Nat × Int), xl ws c (addW l k s) = xl ws c l + if (decide ((way ws c).1 ∈ k) != decide ((way ws c).2.1 ∈ k)) = true then s else 0
  | [] => by
    show xl ws c [(k, s)] = _
    rw [xl_cons]; unfold xl; simp
  | (j, w) :: r => by
    by_cases q : j = k
    · subst q
      have e1 : addW ((j, w) :: r) j s = (j, w + s) :: r := if_pos rfl
      rw [e1, xl_cons, xl_cons]
      split <;> omega
    · have e1 : addW ((j, w) :: r) k s = (j, w) :: addW r k s := if_neg q
      rw [e1, xl_cons, xl_cons, xl_add ws c k s r]; omega
theorem wt_add (k : List Nat) (s : Int) : ∀ l : List (List Nat × Int), wt (addW l k s) = wt l + s
  | [] => by show wt [(k, s)] = _; unfold wt; simp
  | (j, w) :: r => by
    have ih := wt_add k s r
    unfold wt at ih ⊢
    by_cases q : j = k
    · have e1 : addW ((j, w) :: r) k s = (j, w + s) :: r := if_pos q
      rw [e1]; simp only [List.map_cons, List.sum_cons]; omega
    · have e1 : addW ((j, w) :: r) k s = (j, w) :: addW r k s := if_neg q
      rw [e1]; simp only [List.map_cons, List.sum_cons]; omega
theorem wt_fold {n : Nat} {h : Nat → Nat} {s : Int} : ∀ (R : List Nat) (l : List (List Nat × Int)), wt (R.foldl (fun w r => addW w (cls h n r) s) l) = wt l + s * (R.length : Int)
  | [], l => by show wt l = _; simp
  | r :: R, l => by
    show wt (R.foldl (fun w r => addW w (cls h n r) s) (addW l (cls h n r) s)) = _
    rw [wt_fold R, wt_add, List.length_cons, Int.add_assoc]
    congr 1
    rw [Int.natCast_succ, Int.mul_add, Int.mul_one]; omega
theorem xl_fold {n : Nat} {ws : Wl} {h : Nat → Nat} {s : Int} {c : Nat} (ha : (way ws c).1 < n) (hb : (way ws c).2.1 < n) : ∀ (R : List Nat) (l : List (List Nat × Int)), (∀ r ∈ R, r < n ∧ h r = r) → xl ws c (R.foldl (fun w r => addW w (cls h n r) s) l) = xl ws c l + s * (((R.map fun r => b2n (cut1 ws h r c)).sum : Nat) : Int)
  | [], l, _ => by show xl ws c l = _; simp
  | r :: R, l, hR => by
    show xl ws c (R.foldl (fun w r => addW w (cls h n r) s) (addW l (cls h n r) s)) = _
    obtain ⟨rn, rr⟩ := hR r List.mem_cons_self
    rw [xl_fold ha hb R _ fun q hq => hR q (List.mem_cons_of_mem _ hq), xl_add, List.map_cons, List.sum_cons]
    have e1 : (decide ((way ws c).1 ∈ cls h n r) != decide ((way ws c).2.1 ∈ cls h n r)) = cut1 ws h r c := by
      unfold cut1
      rw [show decide ((way ws c).1 ∈ cls h n r) = decide (h (way ws c).1 = r) from by rw [decide_eq_decide, mem_cls, rr]; exact ⟨fun z => z.2, fun z => ⟨ha, z⟩⟩,
        show decide ((way ws c).2.1 ∈ cls h n r) = decide (h (way ws c).2.1 = r) from by rw [decide_eq_decide, mem_cls, rr]; exact ⟨fun z => z.2, fun z => ⟨hb, z⟩⟩]
    rw [e1]
    unfold b2n
    split
    · rw [Int.natCast_add, Int.mul_add]; simp; omega
    · rw [Int.natCast_add, Int.mul_add]; simp
theorem ld_fold {n : Nat} {ws : Wl} {h : Nat → Nat} {s : Int} {R : List Nat} {l : List (List Nat × Int)} (hR : ∀ r ∈ R, r < n ∧ h r = r) : ∀ (C : List Nat), (∀ c ∈ C, (way ws c).1 < n ∧ (way ws c).2.1 < n) → ld ws C (R.foldl (fun w r => addW w (cls h n r) s) l) = ld ws C l + s * (((R.map (dgr ws h C)).sum : Nat) : Int) := by
  have key : ∀ (C : List Nat), (∀ c ∈ C, (way ws c).1 < n ∧ (way ws c).2.1 < n) → ld ws C (R.foldl (fun w r => addW w (cls h n r) s) l) = ld ws C l + s * (((C.map fun c => (R.map fun r => b2n (cut1 ws h r c)).sum).sum : Nat) : Int) := by
    intro C
    induction C with
    | nil => intro _; unfold ld; simp
    | cons c C ih =>
      intro hC
      have ih' := ih fun x hx => hC x (List.mem_cons_of_mem _ hx)
      obtain ⟨ha, hb⟩ := hC c List.mem_cons_self
      have h1 := xl_fold (s := s) ha hb R l hR
      unfold ld at ih' ⊢
      simp only [List.map_cons, List.sum_cons]
      rw [h1, ih', Int.natCast_add, Int.mul_add]; omega
  intro C hC
  rw [key C hC]
  have e1 : (R.map (dgr ws h C)) = R.map fun r => (C.map fun c => b2n (cut1 ws h r c)).sum := List.map_congr_left fun r _ => filter_sum _ _
  rw [e1, sum_swap (fun r c => b2n (cut1 ws h r c)) C R]
theorem take_sub {ws : Wl} : ∀ (k : Nat) {S : Gs}, ∀ c ∈ tkn S, c ∈ tkn (takeAll ws k S)
  | 0, S, c, hc => hc
  | k + 1, S, c, hc => by
    cases e : first ws S with
    | none => rw [takeAll_stop e]; exact hc
    | some d =>
      rw [takeAll_go e]
      refine take_sub k c ?_
      have : tkn (take1 ws S d) = tkn S ++ [d] := by unfold tkn take1; rw [List.map_append]; rfl
      rw [this]; exact List.mem_append_left _ hc
theorem turn_sub {n : Nat} {ws : Wl} {ps : List Pr} {S : Gs} : ∀ c ∈ tkn S, c ∈ tkn (turn n ws ps S) := fun c hc => take_sub n c (by exact hc)
theorem gro_sub {n : Nat} {ws : Wl} {ps : List Pr} : ∀ (k : Nat) (S : Gs) (L : List Rw), ∀ c ∈ tkn S, c ∈ tkn (gro n ws ps k S L).1
  | 0, S, L, c, hc => hc
  | k + 1, S, L, c, hc => by
    by_cases h : opens n ps S.h = []
    · rw [gro_stop h]; exact hc
    · have e : gro n ws ps (k + 1) S L = gro n ws ps k (turn n ws ps S) (L ++ [((turn n ws ps S).time, (turn n ws ps S).h)]) := if_neg h
      rw [e]
      exact gro_sub k _ _ c (turn_sub c hc)
theorem turn_wid {n : Nat} {ws : Wl} {ps : List Pr} {S : Gs} : (turn n ws ps S).wid = (opens n ps S.h).foldl (fun w r => addW w (cls S.h n r) (span ws S (opens n ps S.h))) S.wid := by
  unfold turn; rw [(takeAll_time ws n _).2.2]; rfl
theorem TkOk.turn {n : Nat} {ws : Wl} {ps : List Pr} {S : Gs} (W : Wf n ws) (T : TkOk ws S) : TkOk ws (turn n ws ps S) := TkOk.takeAll W n ⟨T.h, T.fo, T.lt⟩
/-- an invariant of the moments -/
theorem gro_ind {n : Nat} {ws : Wl} {ps : List Pr} (W : Wf n ws) (J : ∀ q ∈ ps, Cn (wedges ws) q.1 q.2) {F : List Nat} {I : Gs → Prop} (hs : ∀ (t : Nat) (S : Gs), GF n ws t S → TkOk ws S → (∀ c ∈ tkn S, c ∈ F) → t < 12 → opens n ps S.h ≠ [] → I S → I (turn n ws ps S)) :
    ∀ (k t : Nat) (S : Gs) (L : List Rw), GF n ws t S → TkOk ws S → (∀ c ∈ tkn (gro n ws ps k S L).1, c ∈ F) → I S → I (gro n ws ps k S L).1
  | 0, t, S, L, _, _, _, h => h
  | k + 1, t, S, L, G, T, hF, h => by
    by_cases ho : opens n ps S.h = []
    · rw [gro_stop ho]; exact h
    · have e : gro n ws ps (k + 1) S L = gro n ws ps k (Mw.turn n ws ps S) (L ++ [((Mw.turn n ws ps S).time, (Mw.turn n ws ps S).h)]) := if_neg ho
      rw [e] at hF ⊢
      obtain ⟨t12, G2⟩ := G.turn (wf_ok W) J ho
      exact gro_ind W J hs k (t + 1) _ _ G2 (T.turn W) hF (hs t S G T (fun c hc => hF c (gro_sub k _ _ c (turn_sub c hc))) t12 ho h)
theorem way_lt {n : Nat} {ws : Wl} (W : Wf n ws) {c : Nat} (hc : c < ws.length) : (way ws c).1 < n ∧ (way ws c).2.1 < n := by
  have := (wy_ok W hc).2
  exact ⟨Nat.lt_trans this.1 this.2.1, this.2.1⟩
theorem opens_ok {n : Nat} {ps : List Pr} {h : Nat → Nat} : ∀ r ∈ opens n ps h, r < n ∧ h r = r := fun r hr => mem_reps'.mp (List.mem_filter.mp hr).1
/-- no choice that joins costs less than the moats' widths -/
theorem low_all {n : Nat} {ws : Wl} {ps : List Pr} {D : List Nat} (W : Wf n ws) (ok : PsOk n ps) (J : ∀ q ∈ ps, Cn (wedges ws) q.1 q.2) (hD : ∀ c ∈ D, c < ws.length) (j : jn ws D ps = true) : wt (allGro n ws ps).1.wid ≤ ld ws D (allGro n ws ps).1.wid := by
  have Wo := wf_ok W
  refine gro_ind (F := tkF n ws ps) (I := fun S => wt S.wid ≤ ld ws D S.wid) W J ?_ n 0 start [(0, start.h)] (GF.start Wo) (TkOk.start ws) (fun c hc => hc) ?_
  · intro t S G T _ t12 ho h
    obtain ⟨s0, _⟩ := G.g.grow Wo J t12 G.f ho
    show wt (turn n ws ps S).wid ≤ ld ws D (turn n ws ps S).wid
    rw [turn_wid, wt_fold, ld_fold opens_ok D fun c hc => way_lt W (hD c hc)]
    have hd : (opens n ps S.h).length ≤ ((opens n ps S.h).map (dgr ws S.h D)).sum := by
      have : ∀ l : List Nat, (∀ r ∈ l, 1 ≤ dgr ws S.h D r) → l.length ≤ (l.map (dgr ws S.h D)).sum := by
        intro l
        induction l with
        | nil => intro _; exact Nat.le_refl _
        | cons x l ih =>
          intro hl
          have h1 := ih fun r hr => hl r (List.mem_cons_of_mem _ hr)
          have h2 := hl x List.mem_cons_self
          simp only [List.map_cons, List.sum_cons, List.length_cons]; omega
      exact this _ fun r hr => deg_open W ok hD j (List.mem_filter.mp hr).2
    have := Int.mul_le_mul_of_nonneg_left (Int.ofNat_le.mpr hd) (Int.le_of_lt s0)
    omega
  · show wt [] ≤ ld ws D []
    have : ∀ D : List Nat, ld ws D [] = 0 := fun D => by
      unfold ld xl
      induction D with
      | nil => rfl
      | cons c D ih => rw [List.map_cons, List.sum_cons, ih]; rfl
    rw [this]; exact Int.le_refl _
def endsL (n : Nat) (ps : List Pr) : List Nat := (List.range n).filter fun x => ps.any fun p => decide (p.1 = x) || decide (p.2 = x)
theorem opens_ends {n : Nat} {ps : List Pr} {h : Nat → Nat} (ok : PsOk n ps) : (opens n ps h).length ≤ (endsL n ps).length := by
  have : (opens n ps h).length ≤ ((endsL n ps).map h).length := sub_len (opens_nodup n ps h) fun r hr => by
    obtain ⟨p, hp, hq⟩ := List.any_eq_true.mp (List.mem_filter.mp hr).2
    obtain ⟨o1, o2⟩ := ok.ok p hp
    have m1 : p.1 ∈ endsL n ps := List.mem_filter.mpr ⟨List.mem_range.mpr (by omega), List.any_eq_true.mpr ⟨p, hp, by simp⟩⟩
    have m2 : p.2 ∈ endsL n ps := List.mem_filter.mpr ⟨List.mem_range.mpr o2, List.any_eq_true.mpr ⟨p, hp, by simp⟩⟩
    unfold parted at hq
    by_cases q1 : h p.1 = r
    · rw [← q1]; exact List.mem_map_of_mem m1
    · by_cases q2 : h p.2 = r
      · rw [← q2]; exact List.mem_map_of_mem m2
      · simp [q1, q2] at hq
  rw [List.length_map] at this; exact this
/-- the told ways carry less than twice the moats' widths -/
theorem up_all {n : Nat} {ws : Wl} {ps : List Pr} (W : Wf n ws) (ok : PsOk n ps) (J : ∀ q ∈ ps, Cn (wedges ws) q.1 q.2) : ((endsL n ps).length : Int) * ld ws (toldL n ws ps) (allGro n ws ps).1.wid ≤ (2 * ((endsL n ps).length : Int) - 2) * wt (allGro n ws ps).1.wid ∨ ps = [] := by
  by_cases hps : ps = []
  · exact .inr hps
  refine .inl ?_
  have Wo := wf_ok W
  obtain ⟨TK, jF, lF⟩ := tkF_ok W ok J
  have hC : ∀ c ∈ toldL n ws ps, c ∈ tkF n ws ps := fun c hc => ((mem_told TK).mp hc).1
  have hCl : ∀ c ∈ toldL n ws ps, c < ws.length := fun c hc => TK.lt c (hC c hc)
  have jC := told_jn W ok TK jF
  have hn : ∀ c ∈ toldL n ws ps, jn ws (outc c (toldL n ws ps)) ps = false := fun c hc => by
    have := List.find?_eq_none.mp (told_spr W ok TK) c hc
    exact Bool.eq_false_iff.mpr this
  have nd : (toldL n ws ps).Nodup := (toldL_pw n ws ps).imp fun h => Nat.ne_of_lt h
  have e0 : ∀ D : List Nat, ld ws D [] = 0 := fun D => by
    unfold ld xl
    induction D with
    | nil => rfl
    | cons c D ih => rw [List.map_cons, List.sum_cons, ih]; rfl
  refine gro_ind (F := tkF n ws ps) (I := fun S => ((endsL n ps).length : Int) * ld ws (toldL n ws ps) S.wid ≤ (2 * ((endsL n ps).length : Int) - 2) * wt S.wid) W J ?_ n 0 start [(0, start.h)] (GF.start Wo) (TkOk.start ws) (fun c hc => hc) ?_
  · intro t S G T hS t12 ho h
    obtain ⟨s0, _⟩ := G.g.grow Wo J t12 G.f ho
    show ((endsL n ps).length : Int) * ld ws (toldL n ws ps) (turn n ws ps S).wid ≤ (2 * ((endsL n ps).length : Int) - 2) * wt (turn n ws ps S).wid
    rw [turn_wid, wt_fold, ld_fold opens_ok _ fun c hc => way_lt W (hCl c hc)]
    have hcount := (count (F := tkF n ws ps) (G := tkn S) W ok TK.fo TK.lt hS hC nd jC hn (by rw [← T.h]; exact ho)).1
    rw [← T.h] at hcount
    have hoe := opens_ends (h := S.h) ok
    have hm : 1 ≤ (opens n ps S.h).length := List.length_pos_iff.mpr ho
    generalize hs : span ws S (opens n ps S.h) = s at *
    generalize hx : ((opens n ps S.h).map (dgr ws S.h (toldL n ws ps))).sum = x at *
    generalize hmm : (opens n ps S.h).length = mm at *
    generalize he : (endsL n ps).length = e at *
    have a1 : (e : Int) * (x : Int) ≤ (e : Int) * (2 * (mm : Int) - 2) := Int.mul_le_mul_of_nonneg_left (by omega) (by omega)
    have a2 : (e : Int) * (2 * (mm : Int) - 2) ≤ (2 * (e : Int) - 2) * (mm : Int) := by
      rw [Int.mul_sub, Int.sub_mul, Int.mul_left_comm, Int.mul_assoc]; omega
    have a3 := Int.mul_le_mul_of_nonneg_left (Int.le_trans a1 a2) (Int.le_of_lt s0)
    rw [Int.mul_add, Int.mul_add]
    have b1 : (e : Int) * (s * (x : Int)) = s * ((e : Int) * (x : Int)) := Int.mul_left_comm _ _ _
    have b2 : (2 * (e : Int) - 2) * (s * (mm : Int)) = s * ((2 * (e : Int) - 2) * (mm : Int)) := Int.mul_left_comm _ _ _
    omega
  · show ((endsL n ps).length : Int) * ld ws (toldL n ws ps) [] ≤ (2 * ((endsL n ps).length : Int) - 2) * wt []
    rw [e0]; show (_ : Int) * 0 ≤ _ * 0; simp
/-- what the ways carry -/
structure FullOk (n : Nat) (ws : Wl) (S : Gs) : Prop where
  le : ∀ c, c < ws.length → xl ws c S.wid ≤ ((way ws c).2.2 : Int) * 4096
  eq : ∀ c ∈ tkn S, xl ws c S.wid = ((way ws c).2.2 : Int) * 4096
theorem xl_lack {n t : Nat} {ws : Wl} {S : Gs} (W : WsOk n ws) (G : GM n ws t S) {c : Nat} (hc : c < ws.length) (hx : crosses ws S c = true) : xl ws c S.wid = ((way ws c).2.2 : Int) * 4096 - lack ws S c := by
  have := G.lackL W hc hx; omega
theorem FullOk.takeAll {n t : Nat} {ws : Wl} (W : WsOk n ws) : ∀ (k : Nat) {S : Gs}, GM n ws t S → FullOk n ws S → FullOk n ws (takeAll ws k S)
  | 0, S, _, F => F
  | k + 1, S, G, F => by
    cases e : first ws S with
    | none => rw [takeAll_stop e]; exact F
    | some c =>
      rw [takeAll_go e]
      obtain ⟨hc, hx, hl⟩ := first_some e
      refine FullOk.takeAll W k (G.take W hc hx).1 ⟨F.le, fun x hx2 => ?_⟩
      have e1 : tkn (take1 ws S c) = tkn S ++ [c] := by unfold tkn take1; rw [List.map_append]; rfl
      rw [e1] at hx2
      rcases List.mem_append.mp hx2 with q | q
      · exact F.eq x q
      · rw [List.mem_singleton.mp q]
        show xl ws c S.wid = _
        rw [xl_lack W G hc hx]
        have h1 := G.lk c hc hx
        have h2 := hl
        omega
theorem full_all {n : Nat} {ws : Wl} {ps : List Pr} (W : Wf n ws) (J : ∀ q ∈ ps, Cn (wedges ws) q.1 q.2) : FullOk n ws (allGro n ws ps).1 := by
  have Wo := wf_ok W
  refine gro_ind (F := tkF n ws ps) (I := FullOk n ws) W J ?_ n 0 start [(0, start.h)] (GF.start Wo) (TkOk.start ws) (fun c hc => hc) ?_
  · intro t S G T hS t12 ho F
    obtain ⟨s0, _, _, _, gg, _⟩ := G.g.grow Wo J t12 G.f ho
    refine FullOk.takeAll Wo n gg ⟨fun c hc => ?_, fun c hc => ?_⟩
    · cases hx : crosses ws S c with
      | true =>
        rw [xl_lack Wo gg hc (show crosses ws (grow n S (opens n ps S.h) (span ws S (opens n ps S.h))) c = true from hx)]
        have := gg.lk c hc hx
        omega
      | false =>
        obtain ⟨h1, h2⟩ := way_lt W hc
        have e : S.h (way ws c).1 = S.h (way ws c).2.1 := Classical.byContradiction fun z => by rw [show crosses ws S c = true from decide_eq_true z] at hx; cases hx
        show xl ws c ((opens n ps S.h).foldl (fun w r => addW w (cls S.h n r) (span ws S (opens n ps S.h))) S.wid) ≤ _
        rw [xl_fold h1 h2 _ _ opens_ok]
        have : ((opens n ps S.h).map fun r => b2n (cut1 ws S.h r c)).sum = 0 := by
          rw [← sum_zero (opens n ps S.h)]
          refine sum_eq_sum fun r _ => ?_
          rw [cut_iff.mpr (by rw [e])]; rfl
        rw [this]
        have := F.le c hc
        simp; exact this
    · have hcl := T.lt c hc
      obtain ⟨h1, h2⟩ := way_lt W hcl
      have HM := hom_ok W (tkn S) T.lt
      have e : S.h (way ws c).1 = S.h (way ws c).2.1 := by rw [T.h]; exact (HM.iff _ _ h1 h2).mpr (edg_in hc)
      show xl ws c ((opens n ps S.h).foldl (fun w r => addW w (cls S.h n r) (span ws S (opens n ps S.h))) S.wid) = _
      rw [xl_fold h1 h2 _ _ opens_ok]
      have : ((opens n ps S.h).map fun r => b2n (cut1 ws S.h r c)).sum = 0 := by
        rw [← sum_zero (opens n ps S.h)]
        refine sum_eq_sum fun r _ => ?_
        rw [cut_iff.mpr (by rw [e])]; rfl
      rw [this]
      have := F.eq c hc
      simp; exact this
  · refine ⟨fun c hc => ?_, fun c hc => nomatch hc⟩
    show xl ws c [] ≤ _
    unfold xl; simp; omega
theorem ld_le {n : Nat} {ws : Wl} {S : Gs} (F : FullOk n ws S) : ∀ D : List Nat, (∀ c ∈ D, c < ws.length) → ld ws D S.wid ≤ 4096 * cost ws D
  | [], _ => Int.le_refl _
  | c :: D, h => by
    have h1 := ld_le F D fun x hx => h x (List.mem_cons_of_mem _ hx)
    have h2 := F.le c (h c List.mem_cons_self)
    unfold ld cost at *
    simp only [List.map_cons, List.sum_cons]
    have : ((way ws c).2.2 : Int) = ((wyAt ws c).2.2 : Int) := rfl
    omega
theorem ld_eq {n : Nat} {ws : Wl} {S : Gs} (F : FullOk n ws S) : ∀ D : List Nat, (∀ c ∈ D, c ∈ tkn S) → ld ws D S.wid = 4096 * cost ws D
  | [], _ => rfl
  | c :: D, h => by
    have h1 := ld_eq F D fun x hx => h x (List.mem_cons_of_mem _ hx)
    have h2 := F.eq c (h c List.mem_cons_self)
    unfold ld cost at *
    simp only [List.map_cons, List.sum_cons]
    have : ((way ws c).2.2 : Int) = ((wyAt ws c).2.2 : Int) := rfl
    omega
/-- the price of the told ways and the widths -/
theorem told_twice {n : Nat} {ws : Wl} {ps : List Pr} (W : Wf n ws) (ok : PsOk n ps) (J : ∀ q ∈ ps, Cn (wedges ws) q.1 q.2) (hp : ps ≠ []) : ((endsL n ps).length : Int) * (4096 * cost ws (toldL n ws ps)) ≤ (2 * ((endsL n ps).length : Int) - 2) * wt (allGro n ws ps).1.wid ∧ wt (allGro n ws ps).1.wid ≤ 4096 * cost ws (toldL n ws ps) := by
  obtain ⟨TK, jF, lF⟩ := tkF_ok W ok J
  have hC : ∀ c ∈ toldL n ws ps, c ∈ tkF n ws ps := fun c hc => ((mem_told TK).mp hc).1
  have FA := full_all (ps := ps) W J
  have e := ld_eq FA _ hC
  constructor
  · rcases up_all W ok J with h | h
    · rw [← e]; exact h
    · exact absurd h hp
  · rw [← e]; exact low_all W ok J (fun c hc => TK.lt c (hC c hc)) (told_jn W ok TK jF)
theorem low_cost {n : Nat} {ws : Wl} {ps : List Pr} {D : List Nat} (W : Wf n ws) (ok : PsOk n ps) (J : ∀ q ∈ ps, Cn (wedges ws) q.1 q.2) (hD : ∀ c ∈ D, c < ws.length) (j : jn ws D ps = true) : wt (allGro n ws ps).1.wid ≤ 4096 * cost ws D :=
  Int.le_trans (low_all W ok J hD j) (ld_le (full_all W J) D hD)
theorem ends_pos {n : Nat} {ps : List Pr} (ok : PsOk n ps) (hp : ps ≠ []) : 1 ≤ (endsL n ps).length := by
  obtain ⟨p, h⟩ := List.exists_mem_of_ne_nil _ hp
  have o := ok.ok p h
  exact List.length_pos_of_mem (show p.1 ∈ endsL n ps from List.mem_filter.mpr ⟨List.mem_range.mpr (by omega), List.any_eq_true.mpr ⟨p, h, by simp⟩⟩)
/-- at most twice any choice -/
theorem told_any {n : Nat} {ws : Wl} {ps : List Pr} {D : List Nat} (W : Wf n ws) (ok : PsOk n ps) (J : ∀ q ∈ ps, Cn (wedges ws) q.1 q.2) (hp : ps ≠ []) (hD : ∀ c ∈ D, c < ws.length) (j : jn ws D ps = true) : ((endsL n ps).length : Int) * cost ws (toldL n ws ps) ≤ (2 * ((endsL n ps).length : Int) - 2) * cost ws D := by
  obtain ⟨h1, _⟩ := told_twice W ok J hp
  have h2 := low_cost W ok J hD j
  have he := ends_pos ok hp
  have h3 := Int.mul_le_mul_of_nonneg_left h2 (show (0 : Int) ≤ 2 * ((endsL n ps).length : Int) - 2 by omega)
  have b1 : ((endsL n ps).length : Int) * (4096 * cost ws (toldL n ws ps)) = 4096 * (((endsL n ps).length : Int) * cost ws (toldL n ws ps)) := Int.mul_left_comm _ _ _
  have b2 : (2 * ((endsL n ps).length : Int) - 2) * (4096 * cost ws D) = 4096 * ((2 * ((endsL n ps).length : Int) - 2) * cost ws D) := Int.mul_left_comm _ _ _
  omega
theorem told_none {n : Nat} {ws : Wl} : toldL n ws [] = [] := by
  unfold toldL
  refine List.filter_eq_nil_iff.mpr fun c _ => ?_
  unfold need jn; simp
theorem ends_none {n : Nat} {ps : List Pr} (ok : PsOk n ps) : (endsL n ps).length = 0 ↔ ps = [] :=
  ⟨fun h => Classical.byContradiction fun z => by have := ends_pos ok z; omega, fun h => by subst h; unfold endsL; simp⟩
end Mw

set_option Elab.async false
set_option linter.all false
set_option maxRecDepth 100000
set_option maxHeartbeats 4000000
namespace Mw
open PySem PySem.Spec PyProof.Rows L2 GE
theorem rowP_at {K : PySem.W.Frag} {H : Hp} {kw : List Nat × Int} {v : V} (h : RpK K H (rowP kw) v) : ∃ (a b : Addr) (fv : V), v = .ref a ∧ SqT K H a [.ref b, fv] ∧ SqT K H b (natsV kw.1) ∧ FrV K H kw.2 fv := by
  obtain ⟨a, vs, rfl, h1, h2⟩ := h.t
  obtain ⟨v1, r1, rfl, h3, h4⟩ := h2.cons
  obtain ⟨v2, r2, rfl, h5, h6⟩ := h4.cons
  rw [h6.nil] at h1
  obtain ⟨b, us, rfl, h7, h8⟩ := h3.t
  obtain ⟨c, ws, rfl, h9, h10⟩ := h5.t
  obtain ⟨x1, s1, rfl, k1, k2⟩ := h10.cons
  obtain ⟨x2, s2, rfl, k3, k4⟩ := k2.cons
  rw [k1.i, k3.i, k4.nil] at h9
  have hus : us = natsV kw.1 := by
    have key : ∀ (cs : List Nat) (us : List V), RpKL K H (cs.map fun (x : Nat) => D.i (x : Int)) us → us = natsV cs := by
      intro cs
      induction cs with
      | nil => intro us h; exact h.nil
      | cons c cs ih =>
        intro us h
        obtain ⟨u, r, rfl, q1, q2⟩ := h.cons
        rw [q1.i, ih r q2]; rfl
    exact key _ _ h8
  rw [hus] at h7
  exact ⟨a, b, _, rfl, h1, h7, c, rfl, h9⟩
theorem pap_len {n : Nat} {ws : Wl} {ps : List Pr} {rs : Wid} (W : Wf n ws) (J : ∀ q ∈ ps, Cn (wedges ws) q.1 q.2) (PO : PapOf (allGro n ws ps).1.wid rs) : rs.length ≤ 300 ∧ ∀ kw ∈ rs, 0 < kw.2 ∧ kw.2 ≤ 491520000 := by
  obtain ⟨t, G, _⟩ := allGro_GF (ps := ps) (wf_ok W) J
  have h1 := G.wl
  have h2 := G.c
  have h3 := W.n12
  refine ⟨by rw [PO.perm.length_eq]; omega, fun kw hk => ?_⟩
  have := G.g.w0 kw (PO.perm.mem_iff.mp hk)
  constructor <;> omega
theorem perm_sum {a b : List Int} (h : a.Perm b) : a.sum = b.sum := by
  induction h with
  | nil => rfl
  | cons x _ ih => rw [List.sum_cons, List.sum_cons, ih]
  | swap x y l => simp only [List.sum_cons]; omega
  | trans _ _ h1 h2 => exact h1.trans h2
theorem wt_perm {a b : Wid} (h : a.Perm b) : (a.map (·.2)).sum = wt b := perm_sum (h.map _)
/-- the rows of the growth's paper -/
theorem rows_q {K : PySem.W.Frag} {H : Hp} {rs : Wid} {vs : List V} (h : RpKL K H (rs.map rowP) vs) : RowsQ K H (rs.map (·.2)) 4096 vs := by
  refine ⟨by rw [h.len, List.length_map, List.length_map], fun i u hu => ?_⟩
  rw [List.getElem?_map] at hu
  cases e : rs[i]? with
  | none => rw [e] at hu; cases hu
  | some kw =>
    rw [e] at hu
    obtain rfl := Option.some.inj hu
    obtain ⟨v, q1, q2⟩ := h.get (i := i) (d := rowP kw) (by rw [List.getElem?_map, e]; rfl)
    obtain ⟨a, b, fv, rfl, r1, r2, r3⟩ := rowP_at q2
    exact ⟨_, q1, a, .ref b, fv, rfl, r1, r3⟩
theorem absS_bd {us : List Int} {M : Nat} : (∀ u ∈ us, u.natAbs ≤ M) → absS us ≤ us.length * M := by
  induction us with
  | nil => intro _; exact Nat.zero_le _
  | cons u us ih =>
    intro h
    have h1 := h u List.mem_cons_self
    have h2 := ih fun x hx => h x (List.mem_cons_of_mem _ hx)
    unfold absS at *
    simp only [List.map_cons, List.sum_cons, List.length_cons, Nat.succ_mul]
    omega
theorem pap_abs {rs : Wid} (h : rs.length ≤ 300 ∧ ∀ kw ∈ rs, 0 < kw.2 ∧ kw.2 ≤ 491520000) : absS (rs.map (·.2)) < 2 ^ 50 := by
  have := absS_bd (us := rs.map (·.2)) (M := 491520000) fun u hu => by
    obtain ⟨kw, q, rfl⟩ := List.mem_map.mp hu
    have := h.2 kw q
    omega
  rw [List.length_map] at this
  have h2 := Nat.mul_le_mul_right 491520000 h.1
  omega
theorem wt_none {n : Nat} {ws : Wl} : (allGro n ws []).1.wid = [] := by
  have ho : opens n [] start.h = [] := by
    unfold opens
    exact List.filter_eq_nil_iff.mpr fun r _ => by simp
  show (gro n ws [] n start [(0, start.h)]).1.wid = []
  cases n with
  | zero => rfl
  | succ n => rw [gro_stop ho]; rfl
def cutK (ws : Wl) (c : Nat) (k : List Nat) : Bool := decide ((way ws c).1 ∈ k) != decide ((way ws c).2.1 ∈ k)
theorem xl_perm {ws : Wl} {c : Nat} {a b : Wid} (h : a.Perm b) : xl ws c a = xl ws c b := by
  unfold xl
  exact perm_sum (h.map _)
theorem xl_filter {ws : Wl} {c : Nat} : ∀ l : Wid, xl ws c l = ((l.filter fun kw => cutK ws c kw.1).map (·.2)).sum
  | [] => rfl
  | (k, s) :: l => by
    rw [xl_cons, xl_filter l, List.filter_cons]
    by_cases h : cutK ws c k = true
    · rw [if_pos (show (decide ((way ws c).1 ∈ k) != decide ((way ws c).2.1 ∈ k)) = true from h), if_pos h, List.map_cons, List.sum_cons]
    · rw [if_neg (show ¬ (decide ((way ws c).1 ∈ k) != decide ((way ws c).2.1 ∈ k)) = true from h), if_neg h]; omega

/-! ### the growth's paper is a paper -/
theorem mem_li {x : Nat} {k : List Nat} : ((x : Int) ∈ li k) ↔ x ∈ k := by
  unfold li
  rw [List.mem_map]
  exact ⟨fun ⟨y, h, e⟩ => by have : y = x := by omega
                             rw [← this]; exact h, fun h => ⟨x, h, rfl⟩⟩
theorem dec_li (x : Nat) (k : List Nat) : decide ((x : Int) ∈ li k) = decide (x ∈ k) := decide_eq_decide.mpr mem_li
def liR (rs : Wid) : Pap := rs.map fun kw => (li kw.1, kw.2)
theorem crB_li (ws : Wl) (c : Nat) (k : List Nat) : crB (way ws c) (li k) = cutK ws c k := by unfold crB cutK; rw [dec_li, dec_li]
theorem openB_li (ps : List Pr) (k : List Nat) : openB ps (li k) = ps.any fun q => decide (q.1 ∈ k) != decide (q.2 ∈ k) := by
  unfold openB
  congr 1
  funext q
  rw [dec_li, dec_li]
theorem setB_li {n : Nat} {k : List Nat} (h0 : k ≠ []) (hp : k.Pairwise (· < ·)) (hn : ∀ x ∈ k, x < n) : setB n (li k) = true := by
  have hl : (li k).length = k.length := by unfold li; rw [List.length_map]
  have hpos : 0 < k.length := List.length_pos_iff.mpr h0
  have hg : ∀ i (h : i < k.length), (li k).getD i 0 = (k[i] : Int) := fun i h => by
    unfold li
    rw [List.getD_eq_getElem?_getD, List.getElem?_map, List.getElem?_eq_getElem h]; rfl
  have he : (li k).isEmpty = false := by cases k with
    | nil => exact absurd rfl h0
    | cons _ _ => rfl
  unfold setB
  rw [he, hl, hg 0 hpos, hg _ (by omega : k.length - 1 < k.length)]
  have h1 := hn _ (List.getElem_mem (by omega : k.length - 1 < k.length))
  have ha : ascB (li k) = true := by
    unfold ascB
    refine List.all_eq_true.mpr fun i hi => ?_
    rw [hl, List.mem_range] at hi
    rw [hg i (by omega), hg (i + 1) (by omega)]
    have := List.pairwise_iff_getElem.mp hp i (i + 1) (by omega) (by omega) (by omega)
    exact decide_eq_true (by omega)
  rw [ha, decide_eq_true (by omega), decide_eq_true (by omega)]; rfl
theorem addW_mem {k : List Nat} {d : Int} : ∀ {l : Wid} {kw : List Nat × Int}, kw ∈ addW l k d → kw.1 = k ∨ ∃ kw' ∈ l, kw'.1 = kw.1
  | [], kw, h => by rw [List.mem_singleton.mp h]; exact .inl rfl
  | (j, w) :: r, kw, h => by
    unfold addW at h
    split at h
    · rcases List.mem_cons.mp h with z | z
      · rw [z]; exact .inr ⟨(j, w), List.mem_cons_self, rfl⟩
      · exact .inr ⟨kw, List.mem_cons_of_mem _ z, rfl⟩
    · rcases List.mem_cons.mp h with z | z
      · rw [z]; exact .inr ⟨(j, w), List.mem_cons_self, rfl⟩
      · rcases addW_mem z with y | ⟨kw', y1, y2⟩
        · exact .inl y
        · exact .inr ⟨kw', List.mem_cons_of_mem _ y1, y2⟩
theorem addW_foldm {h : Nat → Nat} {n : Nat} {s : Int} : ∀ (R : List Nat) {l : Wid} {kw : List Nat × Int}, kw ∈ R.foldl (fun w r => addW w (cls h n r) s) l → (∃ r ∈ R, kw.1 = cls h n r) ∨ ∃ kw' ∈ l, kw'.1 = kw.1
  | [], l, kw, hk => .inr ⟨kw, hk, rfl⟩
  | r :: R, l, kw, hk => by
    rcases addW_foldm R (show kw ∈ R.foldl (fun w r => addW w (cls h n r) s) (addW l (cls h n r) s) from hk) with ⟨x, h1, h2⟩ | ⟨kw', h1, h2⟩
    · exact .inl ⟨x, List.mem_cons_of_mem _ h1, h2⟩
    · rcases addW_mem h1 with z | ⟨kw2, z1, z2⟩
      · exact .inl ⟨r, List.mem_cons_self, by rw [← h2, z]⟩
      · exact .inr ⟨kw2, z1, by rw [z2, h2]⟩
def sep (ps : List Pr) (k : List Nat) : Bool := ps.any fun q => decide (q.1 ∈ k) != decide (q.2 ∈ k)
theorem sep_cls {n : Nat} {ps : List Pr} {h : Nat → Nat} {r : Nat} (ok : PsOk n ps) (hr : r ∈ opens n ps h) : sep ps (cls h n r) = true := by
  obtain ⟨rn, rr⟩ := opens_ok r hr
  obtain ⟨p, hp, hq⟩ := List.any_eq_true.mp (List.mem_filter.mp hr).2
  refine List.any_eq_true.mpr ⟨p, hp, ?_⟩
  obtain ⟨o1, o2⟩ := ok.ok p hp
  unfold parted at hq
  have e1 : decide (p.1 ∈ cls h n r) = decide (h p.1 = r) := by rw [decide_eq_decide, mem_cls, rr]; exact ⟨fun z => z.2, fun z => ⟨by omega, z⟩⟩
  have e2 : decide (p.2 ∈ cls h n r) = decide (h p.2 = r) := by rw [decide_eq_decide, mem_cls, rr]; exact ⟨fun z => z.2, fun z => ⟨o2, z⟩⟩
  rw [e1, e2]; exact hq
theorem sep_all {n : Nat} {ws : Wl} {ps : List Pr} (W : Wf n ws) (ok : PsOk n ps) (J : ∀ q ∈ ps, Cn (wedges ws) q.1 q.2) : ∀ kw ∈ (allGro n ws ps).1.wid, sep ps kw.1 = true := by
  refine gro_ind (F := tkF n ws ps) (I := fun S => ∀ kw ∈ S.wid, sep ps kw.1 = true) W J ?_ n 0 start [(0, start.h)] (GF.start (wf_ok W)) (TkOk.start ws) (fun c hc => hc) (fun kw h => nomatch h)
  intro t S G T _ t12 ho h kw hk
  rw [turn_wid] at hk
  rcases addW_foldm _ hk with ⟨r, h1, h2⟩ | ⟨kw', h1, h2⟩
  · rw [h2]; exact sep_cls ok h1
  · rw [← h2]; exact h kw' h1
theorem loadQ_li {ws : Wl} {c : Nat} (rs : Wid) : loadQ (way ws c) (liR rs) = xl ws c rs := by
  rw [xl_filter]
  unfold loadQ liR
  rw [List.filter_map, List.map_map]
  have : rs.filter ((fun r : List Int × Int => crB (way ws c) r.1) ∘ fun kw => (li kw.1, kw.2)) = rs.filter fun kw => cutK ws c kw.1 := List.filter_congr fun kw _ => crB_li ws c kw.1
  rw [this]; rfl
theorem li_nodup : ∀ {l : List (List Nat)}, l.Nodup → (l.map li).Nodup
  | [], _ => List.nodup_nil
  | x :: l, h => by
    obtain ⟨h1, h2⟩ := List.nodup_cons.mp h
    refine List.nodup_cons.mpr ⟨fun z => ?_, li_nodup h2⟩
    obtain ⟨y, hy, e⟩ := List.mem_map.mp z
    rw [li_inj e] at hy
    exact h1 hy
theorem pap_ok {n : Nat} {ws : Wl} {ps : List Pr} {rs : Wid} (W : Wf n ws) (ok : PsOk n ps) (J : ∀ q ∈ ps, Cn (wedges ws) q.1 q.2) (PO : PapOf (allGro n ws ps).1.wid rs) : papB n ws ps (liR rs) 4096 = true := by
  obtain ⟨t, G, _⟩ := allGro_GF (ps := ps) (wf_ok W) J
  have mm : ∀ kw ∈ rs, kw ∈ (allGro n ws ps).1.wid := fun kw h => PO.perm.mem_iff.mp h
  have nd : (rs.map (·.1)).Nodup := (PO.perm.map (·.1)).nodup_iff.mpr G.nd
  have hn : ((liR rs).map (·.1)).Nodup := by
    have := li_nodup nd
    rw [List.map_map] at this
    unfold liR; rw [List.map_map]; exact this
  have h1 : formB n (liR rs) = true := by
    unfold formB
    rw [decide_eq_true hn, Bool.true_and]
    refine List.all_eq_true.mpr fun r hr => ?_
    obtain ⟨kw, hk, rfl⟩ := List.mem_map.mp hr
    obtain ⟨k1, k2, k3⟩ := G.g.key kw (mm kw hk)
    have w0 := (G.g.w0 kw (mm kw hk)).1
    show (setB n (li kw.1) && decide (0 < kw.2)) = true
    rw [setB_li k2 k3 fun x hx => (k1 x hx).1, decide_eq_true w0]; rfl
  have h2 : (liR rs).all (fun r => openB ps r.1) = true := by
    refine List.all_eq_true.mpr fun r hr => ?_
    obtain ⟨kw, hk, rfl⟩ := List.mem_map.mp hr
    show openB ps (li kw.1) = true
    rw [openB_li]
    exact sep_all W ok J kw (mm kw hk)
  have h3 : bearB ws (liR rs) 4096 = true := by
    refine List.all_eq_true.mpr fun w hw => ?_
    obtain ⟨c, hc, e⟩ := List.getElem_of_mem hw
    have ew : w = way ws c := by unfold way; rw [List.getD_eq_getElem?_getD, List.getElem?_eq_getElem hc, e]; rfl
    rw [ew, loadQ_li, xl_perm PO.perm]
    have := (full_all (ps := ps) W J).le c hc
    rw [decide_eq_false (by omega)]; rfl
  unfold papB
  rw [h1, h2, h3]; rfl
theorem papL_of {K : PySem.W.Frag} {H : Hp} {rs : Wid} {vs : List V} (h : RpKL K H (rs.map rowP) vs) : PapL K H (liR rs) 4096 vs := by
  refine ⟨by rw [h.len, List.length_map]; unfold liR; rw [List.length_map], fun i r hr => ?_⟩
  unfold liR at hr
  rw [List.getElem?_map] at hr
  cases e : rs[i]? with
  | none => rw [e] at hr; cases hr
  | some kw =>
    rw [e] at hr
    obtain rfl := Option.some.inj hr
    obtain ⟨v, q1, q2⟩ := h.get (i := i) (d := rowP kw) (by rw [List.getElem?_map, e]; rfl)
    obtain ⟨a, b, fv, rfl, r1, r2, r3⟩ := rowP_at q2
    exact ⟨_, q1, a, b, fv, rfl, r1, by rw [show intsV (li kw.1) = natsV kw.1 from li_ints _]; exact r2, r3⟩
theorem papV_of {K : PySem.W.Frag} {H : Hp} {rs : Wid} {v : V} (h : RpK K H (papD rs) v) : PapV K H (liR rs) 4096 v := by
  obtain ⟨a, us, rfl, h1, h2⟩ := h.t
  exact ⟨a, us, rfl, h1, papL_of h2⟩
/-! the moats are few: each lies around a group that there was -/
theorem cls_take {n : Nat} {h : Nat → Nat} {a b r : Nat} (hr : r ∈ reps (relab h a b) n) : cls (relab h a b) n r = cls (relab h a b) n (min (h a) (h b)) ∨ (r ∈ reps h n ∧ cls (relab h a b) n r = cls h n r) := by
  obtain ⟨rn, rr⟩ := mem_reps'.mp hr
  by_cases e : r = min (h a) (h b)
  · exact .inl (by rw [e])
  · have h1 : h r ≠ max (h a) (h b) := fun z => by
      unfold relab at rr
      rw [if_pos z] at rr
      exact e rr.symm
    have h2 : h r = r := by
      unfold relab at rr
      rw [if_neg h1] at rr; exact rr
    refine .inr ⟨mem_reps'.mpr ⟨rn, h2⟩, ?_⟩
    unfold cls
    refine List.filter_congr fun x _ => ?_
    rw [rr, h2]
    by_cases hx : h x = max (h a) (h b)
    · have e1 : relab h a b x = min (h a) (h b) := if_pos hx
      rw [e1, hx]
      have n1 : ¬ min (h a) (h b) = r := fun z => e z.symm
      have n2 : ¬ max (h a) (h b) = r := fun z => h1 (by rw [h2, z])
      rw [beq_eq_false_iff_ne.mpr n1, beq_eq_false_iff_ne.mpr n2]
    · have e1 : relab h a b x = h x := if_neg hx
      rw [e1]
def Few (n : Nat) (S : Gs) : Prop := ∃ A : List (List Nat), (∀ kw ∈ S.wid, kw.1 ∈ A) ∧ (∀ r ∈ reps S.h n, cls S.h n r ∈ A) ∧ A.length ≤ n + S.taken.length
theorem Few.take {n : Nat} {ws : Wl} {S : Gs} {c : Nat} (F : Few n S) : Few n (take1 ws S c) := by
  obtain ⟨A, h1, h2, h3⟩ := F
  refine ⟨A ++ [cls (take1 ws S c).h n (min (S.h (way ws c).1) (S.h (way ws c).2.1))], fun kw hk => List.mem_append_left _ (h1 kw hk), fun r hr => ?_, ?_⟩
  · rcases cls_take (h := S.h) (a := (way ws c).1) (b := (way ws c).2.1) hr with z | ⟨z1, z2⟩
    · exact List.mem_append_right _ (List.mem_singleton.mpr z)
    · exact List.mem_append_left _ (by have := h2 r z1; rw [← z2] at this; exact this)
  · show (A ++ [_]).length ≤ n + (S.taken ++ [_]).length
    rw [List.length_append, List.length_append, List.length_singleton, List.length_singleton]; omega
theorem Few.takeAll {n : Nat} {ws : Wl} : ∀ (k : Nat) {S : Gs}, Few n S → Few n (takeAll ws k S)
  | 0, S, F => F
  | k + 1, S, F => by
    cases e : first ws S with
    | none => rw [takeAll_stop e]; exact F
    | some c => rw [takeAll_go e]; exact Few.takeAll k F.take
theorem few_all {n : Nat} {ws : Wl} {ps : List Pr} (W : Wf n ws) (J : ∀ q ∈ ps, Cn (wedges ws) q.1 q.2) : Few n (allGro n ws ps).1 := by
  refine gro_ind (F := tkF n ws ps) (I := Few n) W J ?_ n 0 start [(0, start.h)] (GF.start (wf_ok W)) (TkOk.start ws) (fun c hc => hc) ⟨(reps start.h n).map (cls start.h n), (fun kw h => nomatch h), fun r hr => List.mem_map_of_mem hr, ?_⟩
  · intro t S G T _ t12 ho F
    refine Few.takeAll n ?_
    obtain ⟨A, h1, h2, h3⟩ := F
    refine ⟨A, fun kw hk => ?_, h2, h3⟩
    rcases addW_foldm _ (show kw ∈ (opens n ps S.h).foldl (fun w r => addW w (cls S.h n r) (span ws S (opens n ps S.h))) S.wid from hk) with ⟨r, z1, z2⟩ | ⟨kw', z1, z2⟩
    · rw [z2]; exact h2 r (List.mem_filter.mp z1).1
    · rw [← z2]; exact h1 kw' z1
  · rw [List.length_map]
    have := reps_len start.h n
    omega
theorem wid_22 {n : Nat} {ws : Wl} {ps : List Pr} (W : Wf n ws) (J : ∀ q ∈ ps, Cn (wedges ws) q.1 q.2) : (allGro n ws ps).1.wid.length ≤ 60 := by
  obtain ⟨t, G, _⟩ := allGro_GF (ps := ps) (wf_ok W) J
  obtain ⟨A, h1, _, h3⟩ := few_all (ps := ps) W J
  have h4 := nodup_len (m := A) G.nd fun x hx => by
    obtain ⟨kw, hk, rfl⟩ := List.mem_map.mp hx
    exact h1 kw hk
  rw [List.length_map] at h4
  have h5 := G.tk
  have h6 := W.n12
  omega
theorem papB_of {n : Nat} {ws : Wl} {ps : List Pr} {rs : Wid} (W : Wf n ws) (J : ∀ q ∈ ps, Cn (wedges ws) q.1 q.2) (PO : PapOf (allGro n ws ps).1.wid rs) : PapB (liR rs) 4096 50 := by
  obtain ⟨t, G, _⟩ := allGro_GF (ps := ps) (wf_ok W) J
  have PL := pap_len W J PO
  have e1 : (liR rs).map (·.2) = rs.map (·.2) := by unfold liR; rw [List.map_map]; rfl
  refine ⟨by decide, by decide, by rw [e1]; exact pap_abs PL, by decide, by decide, by unfold liR; rw [List.length_map, PO.perm.length_eq]; exact wid_22 W J, fun r hr => ?_⟩
  obtain ⟨kw, hk, rfl⟩ := List.mem_map.mp hr
  obtain ⟨k1, k2, k3⟩ := G.g.key kw (PO.perm.mem_iff.mp hk)
  have h1 : kw.1.length ≤ n := nodup_le (k3.imp fun h => Nat.ne_of_lt h) fun x hx => (k1 x hx).1
  have := W.n12
  show (li kw.1).length ≤ 1000
  unfold li; rw [List.length_map]; omega
end Mw

set_option Elab.async false
set_option linter.all false
set_option maxRecDepth 100000
set_option maxHeartbeats 4000000
namespace Mw
open PySem PySem.Spec PyProof.Rows L2 GE
def fsum (fs l : List Nat) : Int := (l.map fun x => ((fs.getD x 0 : Nat) : Int)).sum
structure FnOkF (n : Nat) (fs : List Nat) : Prop where
  ln : fs.length = n
  bd : ∀ f ∈ fs, f ≤ 10000
theorem fs_at {n : Nat} {fs : List Nat} (F : FnOkF n fs) {x : Nat} (h : x < n) : fs[x]? = some (fs.getD x 0) ∧ fs.getD x 0 ≤ 10000 := by
  have hx : x < fs.length := by rw [F.ln]; exact h
  have e : fs[x]? = some fs[x] := List.getElem?_eq_getElem hx
  have e2 : fs.getD x 0 = fs[x] := by rw [List.getD_eq_getElem?_getD, e]; rfl
  rw [e2]
  exact ⟨e, F.bd _ (List.getElem_mem _)⟩
theorem fsum_le {n : Nat} {fs : List Nat} (F : FnOkF n fs) : ∀ {l : List Nat}, (∀ x ∈ l, x < n) → 0 ≤ fsum fs l ∧ fsum fs l ≤ 10000 * l.length
  | [], _ => ⟨Int.le_refl _, Int.le_refl _⟩
  | x :: l, h => by
    obtain ⟨h1, h2⟩ := fsum_le F (l := l) fun y hy => h y (List.mem_cons_of_mem _ hy)
    have h3 := (fs_at F (h x List.mem_cons_self)).2
    have e : fsum fs (x :: l) = ((fs.getD x 0 : Nat) : Int) + fsum fs l := by unfold fsum; rw [List.map_cons, List.sum_cons]
    rw [e, List.length_cons]; omega
def finD (fs : List Nat) : D := .t (fs.map fun (x : Nat) => D.i (x : Int))
theorem fin_at {H : Hp} {fs : List Nat} {v : V} (h : Rp H (finD fs) v) : ∃ a, v = .ref a ∧ H a = some (.tup (natsV fs)) := ch_at (cs := fs) h

/-! ### the rest of the fines -/
def inI (ns c : List Int) : Bool := ns.all fun x => decide (x ∈ c)
def usedI (c : List Int) (R : Pap) : Int := ((R.filter fun r => inI r.1 c).map (·.2)).sum
def fineI (fs : List Nat) (c : List Int) : Int := (c.map fun x => ((fs.getD x.toNat 0 : Nat) : Int)).sum
structure PapC (R : Pap) (D : Int) (B : Nat) : Prop where
  d0 : 0 < D
  dB : D.natAbs < 2 ^ B
  uB : absS (R.map (·.2)) < 2 ^ B
  b0 : 0 < B
  b9 : B ≤ 4000
  n3 : R.length ≤ 300
  ns : ∀ r ∈ R, r.1.length ≤ 1000
theorem PapB.c {R : Pap} {D : Int} {B : Nat} (h : PapB R D B) : PapC R D B := ⟨h.d0, h.dB, h.uB, h.b0, h.b9, by have := h.n6; omega, h.ns⟩
def spLies (K : PySem.W.Frag) (T : List Addr) : Sp := fun vs H Q _ => ∃ (a b : Addr) (k c : List Int), vs = [.ref a, .ref b] ∧ SqT K H a (intsV k) ∧ SqT K H b (intsV c) ∧ k.length ≤ 1000 ∧ Wd T H ∧ ∀ H', Ext T noM H H' → Q (.bl (inI k c)) H'
def spRestF (K : PySem.W.Frag) (T : List Addr) : Sp := fun vs H Q _ => ∃ (fv pv : V) (b : Addr) (n : Nat) (fs : List Nat) (c : List Int) (R : Pap) (D : Int) (B : Nat), vs = [fv, .ref b, pv] ∧ Rp H (finD fs) fv ∧ FnOkF n fs ∧ SqT K H b (intsV c) ∧ (∀ x ∈ c, 0 ≤ x ∧ x < n) ∧ c.length ≤ 12 ∧ PapV K H R D pv ∧ PapC R D B ∧ Wd T H ∧
  ∀ v H', FrQ K H' (fineI fs c * D - usedI c R) D v → Ext T noM H H' → Q v H'
theorem fineI_le {n : Nat} {fs : List Nat} (F : FnOkF n fs) : ∀ {c : List Int}, (∀ x ∈ c, 0 ≤ x ∧ x < n) → 0 ≤ fineI fs c ∧ fineI fs c ≤ 10000 * c.length
  | [], _ => ⟨Int.le_refl _, Int.le_refl _⟩
  | x :: c, h => by
    obtain ⟨h1, h2⟩ := fineI_le F (c := c) fun y hy => h y (List.mem_cons_of_mem _ hy)
    have hx := h x List.mem_cons_self
    have h3 := (fs_at F (x := x.toNat) (by omega)).2
    have e : fineI fs (x :: c) = ((fs.getD x.toNat 0 : Nat) : Int) + fineI fs c := by unfold fineI; rw [List.map_cons, List.sum_cons]
    rw [e, List.length_cons]; omega
section
variable {P : Program} {w : World} {K : PySem.W.Frag} {mg : Str → Option Value} {base : Heap} {T : List Addr} {aC aD : Addr}
theorem ok__lies_within {f : Addr} {fd : FuncData} {c PT : Addr} (F : GE.FunC K "_lies_within" "_lies_within" s_lies_within f fd c) (TB : GxR.TabB base mg c PT) (hPT : PT ∈ T) (m_all : mg "all" = none) : FnOk P w K mg base CX0 3 f fd ["inner", "outer"] (spLies K T) := by
  refine F.ok sc_lies_within (fun vs H Q E h => ?_) (fun A outer s H vs Q E hr h => ?_)
  · obtain ⟨a, b, ks, c, rfl, ha, hb, hk, wd, k⟩ := h
    rfl
  · obtain ⟨a, b, ks, c, rfl, ha, hb, hk, wd, k⟩ := h
    refine ⟨_, (pss_one (ps_ret (GE.pe_allG (own := [("place", 2)]) (g := (gName 2)) (k := 0) hr (by rfl) m_all sc_lies_within.nd TB rfl (pi_tup (pv 0)) (GE.gblk_by (N := ["inner", "outer", "place"]) (sc := defScope s_lies_within) (by decide +kernel)) (fun _ _ _ _ _ _ _ _ => (pg_name (i := 2) sc_lies_within.nd rfl (Or.inl rfl))) (fun _ _ _ _ _ _ _ _ hr' => pts_nil) (fun _ _ _ _ _ _ _ _ hr' => (pe_cmpR (GE.in_seqK (K := K)) (pv 2) (pv 1) (by rfl)))))), ?_⟩
    have hlk : (intsV ks).length = ks.length := by unfold intsV; rw [List.length_map]
    refine ⟨_, rfl, a, rfl, ⟨_, ha⟩, wd PT hPT, fun H3 tb => ?_⟩
    have e3 : Ext T noM H H3 := Ext.tab (wd PT hPT) tb
    refine turn_tupI (K := K) (a := a) (xs := intsV ks) (fun i ys H' => ys.length = i ∧ (ks.take i).all (fun x => decide (x ∈ c)) = true ∧ Ext T noM H H') ⟨rfl, rfl, e3⟩ (fun i ys H' _ p => SqT.x ha p.2.2 fun z => z) ?_ ?_
    · rintro ys H' ⟨_, hall, e⟩
      rw [hlk, List.take_length] at hall
      have := k H' e
      rw [show inI ks c = true from hall] at this
      exact this
    · rintro i x ys H' hx ⟨hyl, hall, e⟩ N hN
      have hi : i < ks.length := by have := (List.getElem?_eq_some_iff.mp hx).1; omega
      have hki : ks[i]? = some ks[i] := List.getElem?_eq_getElem hi
      have ex : x = .int ks[i] := by
        unfold intsV at hx
        rw [List.getElem?_map, hki] at hx
        exact (Option.some.inj hx).symm
      subst ex
      refine ⟨rfl, tYesI ?_⟩
      refine ⟨_, rfl, _, rfl, b, _, rfl, .inr (SqT.x hb e fun z => z), rfl, flat_ints c, ?_⟩
      rw [if_neg (by decide), inV_ints]
      refine ⟨small1000 (by omega), _, rfl, fun q => hN _ _ ⟨?_, ?_, e⟩, fun q => ?_⟩
      · rw [List.length_append, List.length_singleton, hyl]
      · rw [take_all hki, hall, q]; rfl
      · have hk2 := k H' e
        rw [show inI ks c = false from Bool.eq_false_iff.mpr fun y => by
          have := List.all_eq_true.mp y ks[i] (List.getElem_mem hi)
          rw [q] at this; cases this] at hk2
        exact hk2
theorem ok_rest_of_fines {f : Addr} {fd : FuncData} {c PT : Addr} (F : GE.FunC K "rest_of_fines" "rest_of_fines" srest_of_fines f fd c) (TB : GxR.TabB base mg c PT) (hPT : PT ∈ T) (m_sum : mg "sum" = none) {fminus : Addr} {fdminus : FuncData} (Fminus : Fun K "minus" "minus" sminus fminus fdminus) (Gminus : FnOk P w K mg base CX0 3 fminus fdminus ["first", "second"] (spMinusQ K T)) (bminus : Binds K fdminus ["first", "second"] []) (gminus : mg "minus" = some (.ref fminus)) {fworth : Addr} {fdworth : FuncData} (Fworth : Fun K "worth" "worth" sworth fworth fdworth) (Gworth : FnOk P w K mg base CX0 3 fworth fdworth ["paper"] (spWorth K T)) (bworth : Binds K fdworth ["paper"] []) (gworth : mg "worth" = some (.ref fworth)) {f_lies_within : Addr} {fd_lies_within : FuncData} (F_lies_within : Fun K "_lies_within" "_lies_within" s_lies_within f_lies_within fd_lies_within) (G_lies_within : FnOk P w K mg base CX0 3 f_lies_within fd_lies_within ["inner", "outer"] (spLies K T)) (b_lies_within : Binds K fd_lies_within ["inner", "outer"] []) (g_lies_within : mg "_lies_within" = some (.ref f_lies_within)) : FnOk P w K mg base CX0 4 f fd ["fines", "places", "paper"] (spRestF K T) := by
  refine F.ok screst_of_fines (fun vs H Q E h => ?_) (fun A outer s H vs Q E hr h => ?_)
  · obtain ⟨fv, pq, b, n, fs, c, R, D, B, rfl, hf, F, hb, hc, cl, hpv, PB, wd, k⟩ := h
    rfl
  · obtain ⟨fv, pq, b, n, fs, c, R, D, B, rfl, hf, F, hb, hc, cl, hpv, PB, wd, k⟩ := h
    refine ⟨_, (pss_cons (ps_setLc (i := 3) (own := [("moat", 4)]) (g := (gName 4)) rfl screst_of_fines.nd rfl rfl (sw_true rfl rfl rfl (by decide +kernel)) (pi_tup (pv 2)) (blkOk_by (own := [("moat", 4)]) (N := ["fines", "places", "paper", "inner", "moat", "place"]) (sc := defScope srest_of_fines) (by decide +kernel)) (fun _ _ _ _ _ => (pg_name (i := 4) screst_of_fines.nd rfl (Or.inl rfl))) (fun _ _ _ _ _ => (pts_one (pt_val (pe_call G_lies_within hr (by rfl) g_lies_within F_lies_within.kp b_lies_within .nil pass0 (pa_cons (pe_ix (GE.ix_tupK (K := K)) (pv 4) pe_int (fun _ _ => rfl)) (pa_cons (pv 1) pa_nil)))))) (fun _ _ _ _ _ => (pv 4)))
      (pss_one (ps_ret (pe_call Gminus hr (by rfl) gminus Fminus.kp bminus .nil pass0 (pa_cons (pe_tup (pa_cons (GE.pe_sumG (own := [("place", 5)]) (g := (gName 5)) (k := 0) (hr.mono (by decide)) (by rfl) m_sum screst_of_fines.nd TB rfl (pi_tup (pv 1)) (GE.gblk_by (N := ["fines", "places", "paper", "inner", "moat", "place"]) (sc := defScope srest_of_fines) (by decide +kernel)) (fun _ _ _ _ _ _ _ _ => (pg_name (i := 5) screst_of_fines.nd rfl (Or.inl rfl))) (fun _ _ _ _ _ _ _ _ hr' => pts_nil) (fun _ _ _ _ _ _ _ _ hr' => (pe_ix (GE.ix_tupK (K := K)) (pv 0) (pv 5) (fun _ _ => rfl)))) (pa_cons pe_int pa_nil))) (pa_cons (pe_call Gworth hr (by rfl) gworth Fworth.kp bworth .nil pass0 (pa_cons (pv 3) pa_nil)) pa_nil)))))), ?_⟩
    obtain ⟨pa, rows, rfl, hpa, hrow⟩ := hpv
    obtain ⟨fa, rfl, hfa⟩ := fin_at hf
    have n3 := PB.n3
    have hrl := hrow.len
    refine ⟨_, rfl, pa, rfl, ⟨_, hpa⟩, fun Dk hDk => ?_⟩
    refine lc_tup (K := K) (a := pa) (xs := rows) (fun i H' => ∃ acc, Ext T noM H H' ∧ H' Dk = some (.lst acc) ∧ PapL K H' ((R.take i).filter fun r => inI r.1 c) D acc) ⟨[], Ext.new hDk, upd_same, ⟨rfl, fun i r hr => by simp at hr⟩⟩ (fun i H' _ ⟨_, e, _⟩ => SqT.x hpa e fun z => z) ?_ ?_
    · rintro i x H' hx ⟨acc, e, hD, hacc⟩
      obtain ⟨hi, xa, bb, gv, rfl, r1, r2, r3⟩ := hrow.row hx
      have hri : R[i]? = some R[i] := List.getElem?_eq_getElem hi
      have r1' := SqT.x r1 e fun z => z
      have r2' := SqT.x r2 e fun z => z
      have hal := hacc.len
      have hfl := List.length_filter_le (fun r : List Int × Int => inI r.1 c) (R.take i)
      rw [List.length_take] at hfl
      have hsn : (R.take (i + 1)).filter (fun r => inI r.1 c) = (R.take i).filter (fun r => inI r.1 c) ++ if inI R[i].1 c = true then [R[i]] else [] := by
        rw [take_succ' hri, List.filter_append]; by_cases z : inI R[i].1 c = true <;> simp [z]
      refine ⟨rfl, ?_⟩
      refine ⟨_, rfl, xa, _, _, _, rfl, rfl, r1', at_of (j := 0) rfl rfl, _, rfl, bb, b, R[i].1, c, rfl, r2', SqT.x hb e fun z => z, PB.ns _ (List.getElem_mem hi), wd.ext e, fun H3 e3 => ⟨_, rfl, ?_⟩⟩
      have e03 := e.trans e3
      have hD3 := e3.lst (fun z => z) hD
      have hacc3 := hacc.x e3
      refine ite2 (fun q => ?_) (fun q => ?_)
      · rw [if_pos q] at hsn
        refine ⟨_, rfl, acc, hD3, small1000 (by omega), acc ++ [.ref xa], e03.mut (.inl hDk) hD3 ltbl, upd_same, ?_⟩
        have keep : ∀ {r : List Int × Int} {v : V}, RowP K H3 r D v → RowP K (upd H3 Dk (.lst (acc ++ [.ref xa]))) r D v := fun {r v} h => by
          obtain ⟨x, b, fv, rfl, h1, h2, a, rfl, h3⟩ := h
          have t : Tp K H3 (upd H3 Dk (.lst (acc ++ [.ref xa]))) := Tp.mut hD3 (fun xs z => nomatch z) (fun o xs z => nomatch z)
          exact ⟨x, b, _, rfl, t.sq _ _ h1, t.sq _ _ h2, a, rfl, t.sq _ _ h3⟩
        rw [hsn]
        refine ⟨by rw [List.length_append, List.length_append, hal]; rfl, fun j r hj => ?_⟩
        by_cases hjl : j < ((R.take i).filter fun r => inI r.1 c).length
        · rw [List.getElem?_append_left hjl] at hj
          obtain ⟨v, q1, q2⟩ := hacc3.at_ j r hj
          exact ⟨v, by rw [List.getElem?_append_left (by rw [hal]; exact hjl)]; exact q1, keep q2⟩
        · rw [List.getElem?_append_right (by omega)] at hj
          have e0 : j - ((R.take i).filter fun r => inI r.1 c).length = 0 := by
            have := (List.getElem?_eq_some_iff.mp hj).1
            simp at this; omega
          rw [e0] at hj
          obtain rfl : R[i] = r := by simpa using hj
          refine ⟨.ref xa, ?_, keep ⟨xa, bb, gv, rfl, SqT.x r1 e03 fun z => z, SqT.x r2 e03 fun z => z, r3.x e03⟩⟩
          rw [List.getElem?_append_right (by omega), hal, e0]; rfl
      · rw [if_neg q, List.append_nil] at hsn
        exact ⟨acc, e03, hD3, by rw [hsn]; exact hacc3⟩
    rintro H1 ⟨acc, e1, hD, hacc⟩
    rw [hrl, List.take_length] at hacc
    have hB : absS ((R.filter fun r => inI r.1 c).map (·.2)) < 2 ^ B := Nat.lt_of_le_of_lt (absS_filter _ R) PB.uB
    have b9 := PB.b9
    have b0 := PB.b0
    have hb1 := SqT.x hb e1 fun z => z
    have wd1 := wd.ext e1
    have hlc : (intsV c).length = c.length := by unfold intsV; rw [List.length_map]
    obtain ⟨fb0, fb1⟩ := fineI_le F hc
    refine ⟨_, rfl, b, rfl, ⟨_, hb1⟩, wd1 PT hPT, fun H2 tb => ?_⟩
    have e2 : Ext T noM H1 H2 := Ext.tab (wd1 PT hPT) tb
    have e12 := e1.trans e2
    refine turn_tupI (K := K) (a := b) (xs := intsV c) (fun i ys H' => ys = ((c.take i).map fun x => ((fs.getD x.toNat 0 : Nat) : Int)).map V.int ∧ Ext T noM H1 H') ⟨rfl, e2⟩ (fun i ys H' _ p => SqT.x hb1 p.2 fun z => z) ?_ ?_
    · rintro ys H3 ⟨rfl, e3⟩
      rw [hlc, List.take_length]
      dsimp only
      rw [isum_ints]
      refine ⟨by show 2 ≤ sizeLine; decide, fun z hz => ?_⟩
      have e4 : Ext T noM H3 (upd H3 z (.tup [.int (fineI fs c), .int 1])) := Ext.new hz
      have hz4 : (upd H3 z (.tup [.int (fineI fs c), .int 1])) z = some (.tup [.int (fineI fs c), .int 1]) := upd_same
      have e14 := e3.trans e4
      refine ⟨_, rfl, Dk, acc, _, D, B, rfl, .inr (SqL.of (e14.lst (fun z => z) hD)), rowsQ_of (hacc.x e14), PB.d0, PB.dB, hB, b0, by omega, fun v H5 hv e5 => ?_⟩
      have hc5 := FrQ.int (K := K) (SqT.of (K := K) (e5.tup (fun z => z) hz4)) PB.d0
      have dB := PB.dB
      have hp2 : (2 : Nat) ^ B ≤ 2 ^ (18 + B) := Nat.pow_le_pow_right (by decide) (by omega)
      have hcB : (fineI fs c * D).natAbs < 2 ^ (18 + B) := wide_lt (by omega) dB
      have hlB : (usedI c R).natAbs < 2 ^ (18 + B) := by
        have := absS_take ((R.filter fun r => inI r.1 c).map (·.2)) ((R.filter fun r => inI r.1 c).map (·.2)).length
        rw [List.take_length] at this
        have h2 : (usedI c R).natAbs ≤ absS ((R.filter fun r => inI r.1 c).map (·.2)) := this
        omega
      refine ⟨.ref z, v, _, usedI c R, D, 18 + B, rfl, ⟨hc5, hv, PB.d0, by omega, hcB, hlB, by omega, by omega⟩, fun zz H6 hzz e6 => ?_⟩
      exact k zz H6 hzz ((e1.trans e14).trans (e5.trans e6))
    · rintro i x ys H' hx ⟨rfl, e⟩ N hN
      have hi : i < c.length := by have := (List.getElem?_eq_some_iff.mp hx).1; omega
      have hci : c[i]? = some c[i] := List.getElem?_eq_getElem hi
      have ex : x = .int c[i] := by
        unfold intsV at hx
        rw [List.getElem?_map, hci] at hx
        exact (Option.some.inj hx).symm
      subst ex
      obtain ⟨c0, c1⟩ := hc _ (List.getElem_mem hi)
      obtain ⟨f1, f2⟩ := fs_at F (x := c[i].toNat) (by omega)
      obtain ⟨s1, s2⟩ := fineI_le F (c := c.take i) fun x hx => hc x (List.mem_of_mem_take hx)
      have hti : (c.take i).length ≤ 12 := by rw [List.length_take]; omega
      have hfx : (natsV fs)[c[i].toNat]? = some (V.int ((fs.getD c[i].toNat 0 : Nat) : Int)) := by unfold natsV; rw [List.getElem?_map, f1]; rfl
      refine ⟨rfl, tYesI ?_⟩
      refine ⟨_, rfl, _, rfl, fa, _, _, _, rfl, rfl, SqT.of ((e1.trans e).tup (fun z => z) hfa), at_of (j := c[i].toNat) (by omega) hfx, ?_, _, rfl, by omega, ?_, hN _ _ ⟨?_, e⟩⟩
      · rw [List.length_map, List.length_map]; exact small1000 (by omega)
      · rw [isum_ints]; unfold fineI at s1 s2; omega
      · rw [take_succ' hci, List.map_append, List.map_append]; rfl
end
end Mw

set_option Elab.async false
set_option linter.all false
set_option maxRecDepth 100000
set_option maxHeartbeats 4000000
namespace Mw
open PySem PySem.Spec PyProof.Rows L2 GE
/-! ### a FineGrowth -/
structure FYx (K : PySem.W.Frag) (aD : Addr) : Prop where
  cl : Cls K aD
  n_field : NoAttr K aD "field"
  n_notes : NoAttr K aD "notes"
  n_root : NoAttr K aD "_root"
  n_fines : NoAttr K aD "_fines"
structure FGd where
  p : Addr
  f : FAd
  ln : Addr
  fv : V
def gf (g : FGd) (root : Nat) : List (Str × V) := [("field", .ref g.f.p), ("notes", .ref g.ln), ("_root", .int (root : Nat)), ("_fines", g.fv)]
theorem gf_field (g : FGd) (r : Nat) : (gf g r).lookup ("field" : Str) = some (.ref g.f.p) := by rfl
theorem gf_notes (g : FGd) (r : Nat) : (gf g r).lookup ("notes" : Str) = some (.ref g.ln) := by rfl
theorem gf_root (g : FGd) (r : Nat) : (gf g r).lookup ("_root" : Str) = some (.int (r : Nat)) := by rfl
theorem gf_fines (g : FGd) (r : Nat) : (gf g r).lookup ("_fines" : Str) = some g.fv := by rfl
structure FgAt (K : PySem.W.Frag) (aC aD : Addr) (H : Hp) (g : FGd) (n root : Nat) (fs : List Nat) (ws : Wl) (S : Gs) (nt : Keys) : Prop where
  ob : ∃ dx, H g.p = some (.ins aD dx (gf g root))
  fd : FieldAt K aC H g.f n ws S
  nt : ∃ vs, H g.ln = some (.lst vs) ∧ TupsL H nt vs
  fn : Rp H (finD fs) g.fv
  n1 : ¬ Fm g.f g.p
  n2 : ¬ Fm g.f g.ln
/-- what is written -/
def Gm (g : FGd) : Addr → Prop := fun b => Fm g.f b ∨ b = g.ln
structure FOk (n root t : Nat) (fs : List Nat) (ws : Wl) (S : Gs) : Prop where
  W : Wf n ws
  F : FnOkF n fs
  rn : root < n
  m : FM n root fs ws t 300 S
  t12 : t ≤ 12
  nd : (S.wid.map (·.1)).Nodup
  wl : S.wid.length ≤ 300
section
variable {K : PySem.W.Frag} {T : List Addr} {H H' : Hp} {aC aD : Addr} {g : FGd} {n root : Nat} {fs : List Nat} {ws : Wl} {S S' : Gs} {nt : Keys}
theorem FgAt.x (F : FgAt K aC aD H g n root fs ws S nt) (e : Ext T noM H H') : FgAt K aC aD H' g n root fs ws S nt := by
  obtain ⟨dx, h1⟩ := F.ob
  obtain ⟨vs, a1, a2⟩ := F.nt
  exact ⟨⟨dx, e.kp _ _ (fun z => z) h1 (fun ps z => nomatch z)⟩, F.fd.x e, ⟨vs, e.lst (fun z => z) a1, a2.tup fun b xs => e.tup (fun z => z)⟩, Rp.x e F.fn, F.n1, F.n2⟩
theorem FgAt.fld (F : FgAt K aC aD H g n root fs ws S nt) (e : Ext T (Fm g.f) H H') (F' : FieldAt K aC H' g.f n ws S') : FgAt K aC aD H' g n root fs ws S' nt := by
  obtain ⟨dx, h1⟩ := F.ob
  obtain ⟨vs, a1, a2⟩ := F.nt
  have tp := Tp.ofF F.fd e
  exact ⟨⟨dx, e.kp _ _ F.n1 h1 (fun ps z => nomatch z)⟩, F', ⟨vs, e.lst F.n2 a1, a2.tup tp.tup⟩, tp.rp F.fn, F.n1, F.n2⟩
theorem FgAt.put (F : FgAt K aC aD H g n root fs ws S nt) {vs : List V} {l : List Nat} {a : Addr} (h : H g.ln = some (.lst vs)) (hv : TupsL H nt vs) (ha : H a = some (.tup (natsV l))) : FgAt K aC aD (upd H g.ln (.lst (vs ++ [.ref a]))) g n root fs ws S (nt ++ [l]) := by
  obtain ⟨dx, h1⟩ := F.ob
  have tp : Tp K H (upd H g.ln (.lst (vs ++ [.ref a]))) := Tp.mut h (fun xs z => nomatch z) (fun o xs z => nomatch z)
  have np : g.p ≠ g.ln := fun z => by rw [z, h] at h1; cases h1
  exact ⟨⟨dx, by rw [upd_ne np]; exact h1⟩, F.fd.o F.n2 h, ⟨_, upd_same, (hv.tup tp.tup).snoc (tp.tup _ _ ha)⟩, tp.rp F.fn, F.n1, F.n2⟩
theorem FgAt.tp (F : FgAt K aC aD H g n root fs ws S nt) (e : Ext T (Gm g) H H') : Tp K H H' := by
  obtain ⟨vs, a1, a2⟩ := F.nt
  have nm : ∀ b xs, H b = some (.tup xs) → ¬ Gm g b := fun b xs h m => by
    rcases m with m | m
    · obtain ⟨o, h1, h2, _⟩ := F.fd.not b m
      rw [h] at h1; exact h2 xs (Option.some.inj h1).symm
    · rw [m, a1] at h; cases h
  have nf : ∀ b u xs, H b = some (.frz u xs) → ¬ Gm g b := fun b u xs h m => by
    rcases m with m | m
    · obtain ⟨o, h1, _, h3⟩ := F.fd.not b m
      rw [h] at h1; exact h3 u xs (Option.some.inj h1).symm
    · rw [m, a1] at h; cases h
  refine ⟨fun b xs h => e.tup (nm b xs h) h, fun b xs h => ?_⟩
  rcases h with (h | ⟨o, h⟩) | h
  · exact .inl (.inl (e.tup (nm b xs h) h))
  · exact .inl (.inr ⟨o, e.kp _ _ (nf b o _ h) h fun ps z => by cases z⟩)
  · exact .inr h
theorem _root_.GE.Ext.gm (e : Ext T noM H H') : Ext T (Gm g) H H' := e.weak
theorem _root_.GE.Ext.fm (e : Ext T (Fm g.f) H H') : Ext T (Gm g) H H' := ⟨fun b o m => e.kp b o fun z => m (.inl z), e.tb, e.fr⟩
end
/-! ### the rest, of the widths in any order -/
theorem fineI_li (fs c : List Nat) : fineI fs (li c) = fineS fs c := by
  unfold fineI fineS li
  rw [List.map_map]
  congr 1
theorem inI_li (k c : List Nat) : inI (li k) (li c) = inK k c := by
  unfold inI inK li
  rw [List.all_map]
  congr 1
  funext x
  exact dec_li x c
theorem usedI_li (c : List Nat) (rs : Wid) : usedI (li c) (liR rs) = usedW c rs := by
  unfold usedI usedW liR
  rw [List.filter_map, List.map_map]
  have : rs.filter ((fun r : List Int × Int => inI r.1 (li c)) ∘ fun kw => (li kw.1, kw.2)) = rs.filter fun kw => inK kw.1 c := List.filter_congr fun kw _ => inI_li kw.1 c
  rw [this]; rfl
theorem usedW_perm {c : List Nat} {a b : Wid} (h : a.Perm b) : usedW c a = usedW c b := perm_sum ((h.filter _).map _)
theorem abs_rows {b : Nat} : ∀ {rs : Wid}, (∀ kw ∈ rs, 0 < kw.2 ∧ kw.2 ≤ (b : Int) * 40960000) → absS (rs.map (·.2)) ≤ rs.length * (b * 40960000)
  | [], _ => Nat.zero_le _
  | kw :: rs, h => by
    have h1 := h kw List.mem_cons_self
    have h2 := abs_rows (b := b) (rs := rs) fun x hx => h x (List.mem_cons_of_mem _ hx)
    have e : absS ((kw :: rs).map (·.2)) = kw.2.natAbs + absS (rs.map (·.2)) := by unfold absS; rw [List.map_cons, List.map_cons, List.sum_cons]
    rw [e, List.length_cons, Nat.succ_mul]; omega
theorem FOk.papC {n root t : Nat} {fs : List Nat} {ws : Wl} {S : Gs} {rs : Wid} (O : FOk n root t fs ws S) (PO : PapOf S.wid rs) : PapC (liR rs) 4096 50 := by
  have hl : rs.length ≤ 300 := by rw [PO.perm.length_eq]; exact O.wl
  have hw : ∀ kw ∈ rs, 0 < kw.2 ∧ kw.2 ≤ ((300 : Nat) : Int) * 40960000 := fun kw hk => O.m.g.w0 kw (PO.perm.mem_iff.mp hk)
  have ha := abs_rows hw
  have e1 : (liR rs).map (·.2) = rs.map (·.2) := by unfold liR; rw [List.map_map]; rfl
  refine ⟨by decide, by decide, ?_, by decide, by decide, by unfold liR; rw [List.length_map]; exact hl, fun r hr => ?_⟩
  · rw [e1]
    have : rs.length * (300 * 40960000) ≤ 300 * (300 * 40960000) := Nat.mul_le_mul_right _ hl
    have h2 : (300 * (300 * 40960000) : Nat) < 2 ^ 50 := by decide
    omega
  · obtain ⟨kw, hk, rfl⟩ := List.mem_map.mp hr
    obtain ⟨k1, k2, k3⟩ := O.m.g.key kw (PO.perm.mem_iff.mp hk)
    have h1 : kw.1.length ≤ n := nodup_le (k3.imp fun h => Nat.ne_of_lt h) fun x hx => (k1 x hx).1
    have := O.W.n12
    show (li kw.1).length ≤ 1000
    unfold li; rw [List.length_map]; omega
def spRest (K : PySem.W.Frag) (T : List Addr) (aC aD : Addr) : Sp := fun vs H Q _ => ∃ (g : FGd) (n root t : Nat) (fs : List Nat) (ws : Wl) (S : Gs) (nt : Keys) (b : Addr) (c : List Nat), vs = [.ref g.p, .ref b] ∧ FgAt K aC aD H g n root fs ws S nt ∧ FOk n root t fs ws S ∧ H b = some (.tup (natsV c)) ∧ (∀ x ∈ c, x < n) ∧ c.length ≤ 12 ∧ Wd T H ∧
  ∀ v H', FrV K H' (rest fs S c) v → Ext T noM H H' → Q v H'
/-- some tuples of places, in a tuple or a list -/
def GrpsV (K : PySem.W.Frag) (H : Hp) (n : Nat) (ls : Keys) (v : V) : Prop := ∃ (a : Addr) (vs : List V), v = .ref a ∧ (H a = some (.tup vs) ∨ H a = some (.lst vs)) ∧ TupsL H ls vs ∧ ∀ l ∈ ls, l.length ≤ 12 ∧ ∀ x ∈ l, x < n
theorem way_lt' {n : Nat} {ws : Wl} (W : WsOk n ws) {c : Nat} (hc : c < ws.length) : (way ws c).1 < n ∧ (way ws c).2.1 < n := by
  have := W.ok c hc
  exact ⟨Nat.lt_trans this.1 this.2.1, this.2.1⟩
def spNote (K : PySem.W.Frag) (T : List Addr) (aC aD : Addr) : Sp := fun vs H Q _ => ∃ (g : FGd) (n root t : Nat) (fs : List Nat) (ws : Wl) (S : Gs) (nt ls : Keys) (gv : V), vs = [.ref g.p, gv] ∧ FgAt K aC aD H g n root fs ws S nt ∧ FOk n root t fs ws S ∧ GrpsV K H n ls gv ∧ (∀ l ∈ ls, root ∉ l → 0 ≤ rest fs S l) ∧ (∀ a, gv = .ref a → ¬ Gm g a) ∧ ls.length ≤ 24 ∧ nt.length ≤ 900 ∧ Wd T H ∧
  ∀ H', FgAt K aC aD H' g n root fs ws S (noteL root fs S nt ls) → Ext T (Gm g) H H' → Q .non H'
def spAwake (K : PySem.W.Frag) (T : List Addr) (aC aD : Addr) : Sp := fun vs H Q _ => ∃ (g : FGd) (n root t : Nat) (fs : List Nat) (ws : Wl) (S : Gs) (nt : Keys), vs = [.ref g.p] ∧ FgAt K aC aD H g n root fs ws S nt ∧ FOk n root t fs ws S ∧ Wd T H ∧
  ∀ v H', RisV K H' n S.h (awk n root fs S) v → Ext T noM H H' → Q v H'
def spChange (K : PySem.W.Frag) (T : List Addr) (aC aD : Addr) : Sp := fun vs H Q _ => ∃ (g : FGd) (n root t : Nat) (fs : List Nat) (ws : Wl) (S : Gs) (nt : Keys) (rv : V), vs = [.ref g.p, rv] ∧ FgAt K aC aD H g n root fs ws S nt ∧ FOk n root t fs ws S ∧ t < 12 ∧ first ws S = none ∧ awk n root fs S ≠ [] ∧ RisV K H n S.h (awk n root fs S) rv ∧ Wd T H ∧
  ∀ v H', FrV K H' (spanF n root fs ws S) v → Ext T noM H H' → Q v H'
def spTan (K : PySem.W.Frag) (T : List Addr) (aC aD : Addr) : Sp := fun vs H Q _ => ∃ (g : FGd) (n root t : Nat) (fs : List Nat) (ws : Wl) (S : Gs) (nt : Keys), vs = [.ref g.p] ∧ FgAt K aC aD H g n root fs ws S nt ∧ FOk n root t fs ws S ∧ S.taken.length + (reps S.h n).length ≤ n ∧ nt.length ≤ 800 ∧ Wd T H ∧
  ∀ H', FgAt K aC aD H' g n root fs ws (takeAll ws n S) (noteL root fs (takeAll ws n S) (noteL root fs (takeAll ws n S) nt (born ws n n S)) ((reps (takeAll ws n S).h n).map (cls (takeAll ws n S).h n))) → Ext T (Gm g) H H' → Q .non H'
theorem bornAll_eq (ws : Wl) (n : Nat) : ∀ (k : Nat) (S : Gs), bornAll ws n k S = born ws n k S
  | 0, S => rfl
  | k + 1, S => by
    cases h : first ws S with
    | none =>
      rw [born_stop h]
      show [] = (match first ws S with | none => [] | some c => cls (take1 ws S c).h n (way ws c).1 :: born ws n k (take1 ws S c))
      rw [h]
    | some c =>
      rw [born_go h, bornAll_eq ws n k]
      show _ = (match first ws S with | none => [] | some c => cls (take1 ws S c).h n (way ws c).1 :: born ws n k (take1 ws S c))
      rw [h]
theorem noteL_snoc (root : Nat) (fs : List Nat) (S : Gs) (l cs : Keys) (c : List Nat) : noteL root fs S l (cs ++ [c]) = note1 root fs S (noteL root fs S l cs) c := by
  unfold noteL; rw [List.foldl_append]; rfl
theorem noteL_len (root : Nat) (fs : List Nat) (S : Gs) : ∀ (cs l : Keys), (noteL root fs S l cs).length ≤ l.length + cs.length
  | [], l => Nat.le_refl _
  | c :: cs, l => by
    have h1 := noteL_len root fs S cs (note1 root fs S l c)
    have h2 : (note1 root fs S l c).length ≤ l.length + 1 := by
      unfold note1; split
      · rw [List.length_append]; exact Nat.le_refl _
      · omega
    show (noteL root fs S (note1 root fs S l c) cs).length ≤ _
    rw [List.length_cons]; omega
theorem born_ok {n : Nat} {ws : Wl} : ∀ (k : Nat) (S : Gs), (born ws n k S).length ≤ k ∧ ∀ l ∈ born ws n k S, l.length ≤ n ∧ ∀ x ∈ l, x < n
  | 0, S => ⟨Nat.le_refl _, fun l h => nomatch h⟩
  | k + 1, S => by
    rw [← bornAll_eq]
    cases h : first ws S with
    | none => rw [born_stop h]; exact ⟨Nat.zero_le _, fun l h => nomatch h⟩
    | some c =>
      rw [born_go h, bornAll_eq]
      obtain ⟨h1, h2⟩ := born_ok (n := n) (ws := ws) k (take1 ws S c)
      refine ⟨by rw [List.length_cons]; omega, fun l hl => ?_⟩
      rcases List.mem_cons.mp hl with z | z
      · rw [z]; exact ⟨cls_len _ _ _, fun x hx => (mem_cls.mp hx).1⟩
      · exact h2 l z
theorem GB.mono {n t b b' : Nat} {ws : Wl} {S : Gs} (G : GB n ws t b S) (h : b ≤ b') : GB n ws t b' S :=
  ⟨G.hom, G.dv, G.dt, G.dw, fun p => by have := G.d0 p; constructor <;> omega, by have := G.t0; constructor <;> omega, fun kw hk => by have := G.w0 kw hk; constructor <;> omega, G.lk, G.sum, G.key⟩
theorem FM.mono {n root t b b' : Nat} {fs : List Nat} {ws : Wl} {S : Gs} (F : FM n root fs ws t b S) (h : b ≤ b') : FM n root fs ws t b' S := ⟨F.g.mono h, F.r0⟩
theorem rest_bd {n root t : Nat} {fs : List Nat} {ws : Wl} {S : Gs} {c : List Nat} (O : FOk n root t fs ws S) (hl : c.length ≤ 12) (h0 : 0 ≤ rest fs S c) : bd (rest fs S c) := by
  have h1 := fineS_le O.F.bd c
  have h3 : 0 ≤ usedW c S.wid := sum_pos0 fun x hx => by
    obtain ⟨kw, hk, rfl⟩ := List.mem_map.mp hx
    have := (O.m.g.w0 kw (List.mem_filter.mp hk).1).1
    omega
  unfold rest at h0 ⊢
  constructor <;> omega
theorem born_rest {n root t b : Nat} {fs : List Nat} {ws : Wl} (W : WsOk n ws) : ∀ (k : Nat) {S : Gs}, FM n root fs ws t b S → ∀ l ∈ born ws n k S, root ∉ l → 0 ≤ rest fs S l
  | 0, S, _, l, h, _ => nomatch h
  | k + 1, S, F, l, hl, hr => by
    rw [← bornAll_eq] at hl
    cases h : first ws S with
    | none => rw [born_stop h] at hl; cases hl
    | some c =>
      rw [born_go h, bornAll_eq] at hl
      obtain ⟨hc, hx, _⟩ := first_some h
      have F2 := (F.take W hc hx).1
      have e : ∀ l, rest fs (take1 ws S c) l = rest fs S l := fun l => rfl
      rcases List.mem_cons.mp hl with z | z
      · subst z
        obtain ⟨es, HM⟩ := F2.g.hom
        have h1 := (way_lt' W hc).1
        have h2 := F2.r0 ((take1 ws S c).h (way ws c).1) (Nat.lt_of_le_of_lt (HM.le _ h1) h1) (HM.idem _ h1)
        rw [cls_hom HM h1] at h2
        exact h2 hr
      · exact born_rest W k F2 l z hr
section
variable {P : Program} {w : World} {K : PySem.W.Frag} {mg : Str → Option Value} {base : Heap} {T : List Addr} {aC aD : Addr}
theorem ok_FineGrowth__rest {f : Addr} {fd : FuncData} (F : Fun K "_rest" "FineGrowth._rest" sFineGrowth__rest f fd) {frest_of_fines : Addr} {fdrest_of_fines : FuncData} (Frest_of_fines : Fun K "rest_of_fines" "rest_of_fines" srest_of_fines frest_of_fines fdrest_of_fines) (Grest_of_fines : FnOk P w K mg base CX0 4 frest_of_fines fdrest_of_fines ["fines", "places", "paper"] (spRestF K T)) (brest_of_fines : Binds K fdrest_of_fines ["fines", "places", "paper"] []) (grest_of_fines : mg "rest_of_fines" = some (.ref frest_of_fines)) {fField_paper : Addr} {fdField_paper : FuncData} (FField_paper : Fun K "paper" "Field.paper" sField_paper fField_paper fdField_paper) (GField_paper : FnOk P w K mg base CX0 4 fField_paper fdField_paper ["self"] (spPaper K T aC)) (bField_paper : Binds K fdField_paper ["self"] []) (mmField_paper : Meth K aC "paper" fField_paper) (fx : FTx K aC) (fy : FYx K aD) : FnOk P w K mg base CX0 5 f fd ["self", "group"] (spRest K T aC aD) := by
  refine F.ok scFineGrowth__rest (fun vs H Q E h => ?_) (fun cdv A outer s H vs Q E hr h => ?_)
  · obtain ⟨g, n, root, t, fs, ws, S, nt, b, c, rfl, FG, O, hb, hc, cl, wd, k⟩ := h
    rfl
  · obtain ⟨g, n, root, t, fs, ws, S, nt, b, c, rfl, FG, O, hb, hc, cl, wd, k⟩ := h
    refine ⟨_, (pss_one (ps_ret (pe_call Grest_of_fines hr (by rfl) grest_of_fines Frest_of_fines.kp brest_of_fines .nil pass0 (pa_cons (pe_fld (pv 0) rfl) (pa_cons (pv 1) (pa_cons (pe_meth0 (pe_fld (pv 0) rfl) fx.cl mmField_paper GField_paper hr bField_paper .nil pass0) pa_nil)))))), ?_⟩
    obtain ⟨dx, hob⟩ := FG.ob
    obtain ⟨dy, tv, hfo, _⟩ := FG.fd.ob
    refine ⟨_, rfl, g.p, aD, dx, _, _, rfl, hob, fy.cl, fy.n_fines, gf_fines _ _, _, rfl, ?_⟩
    refine ⟨_, rfl, g.p, aD, dx, _, _, rfl, hob, fy.cl, fy.n_field, gf_field _ _, g.f.p, dy, _, rfl, hfo, by rfl, g.f, n, t, ws, S, rfl, FG.fd, O.m.g, O.nd, O.wl, wd, fun rs pv H1 PO hpv e1 => ?_⟩
    refine ⟨g.fv, pv, b, n, fs, li c, liR rs, 4096, 50, rfl, Rp.x e1 FG.fn, O.F, ?_, fun x hx => ?_, ?_, papV_of hpv, O.papC PO, wd.ext e1, fun v H2 hv e2 => ?_⟩
    · have : intsV (li c) = natsV c := li_ints _
      rw [this]; exact SqT.of (e1.tup (fun z => z) hb)
    · unfold li at hx
      obtain ⟨y, hy, rfl⟩ := List.mem_map.mp hx
      have := hc y hy
      constructor <;> omega
    · unfold li; rw [List.length_map]; exact cl
    · refine k v H2 ?_ (e1.trans e2)
      rw [fineI_li, usedI_li, usedW_perm PO.perm] at hv
      exact hv.v
end
end Mw

set_option Elab.async false
set_option linter.all false
set_option maxRecDepth 100000
set_option maxHeartbeats 4000000
namespace Mw
open PySem PySem.Spec PyProof.Rows L2 GE
theorem dp_keys {K : PySem.W.Frag} {H : Hp} : ∀ (ls : Keys) (vs : List V), TupsL H ls vs → DpAll K H vs (ls.map natD)
  | [], vs, h => by rw [List.eq_nil_of_length_eq_zero h.1]; exact .nil
  | l :: ls, [], h => by have := h.1; simp at this
  | l :: ls, v :: vs, h => by
    obtain ⟨t, q1, q2⟩ := h.2 0 l rfl
    have e : v = .ref t := by simpa using q1
    rw [e]
    exact .cons (dp_nat q2) (dp_keys ls vs ⟨by simpa using h.1, fun i q hq => by simpa using h.2 (i + 1) q (by simpa using hq)⟩)
theorem keys_shaped (ls : Keys) : SeqAt.shaped (.list (ls.map natD)) = true := by
  have key : ∀ ls : Keys, PyData.canLayAll0 (ls.map natD) = true ∧ PyData.depthAll (ls.map natD) ≤ 1 := by
    intro ls
    induction ls with
    | nil => exact ⟨rfl, Nat.zero_le _⟩
    | cons l ls ih =>
      obtain ⟨h1, h2⟩ := natD_all l
      simp only [List.map_cons, PyData.canLayAll0, PyData.depthAll, natD, PyData.canLay0, PyData.depth, h1, h2]
      exact ⟨by rw [ih.1]; rfl, by omega⟩
  obtain ⟨h1, h2⟩ := key ls
  show (PyData.canLayAll0 _ && decide (PyData.depthAll _ + 1 ≤ 64)) = true
  rw [h1, Bool.true_and, decide_eq_true_eq]; omega
theorem keys_any (ls : Keys) (c : List Nat) : ((ls.map natD).any fun z => PyData.eqv z (natD c)) = decide (c ∈ ls) := by
  induction ls with
  | nil => rfl
  | cons l ls ih =>
    rw [List.map_cons, List.any_cons, ih]
    have e : PyData.eqv (natD l) (natD c) = decide (l = c) := eqv_nat _ _
    rw [e]
    by_cases q : l = c
    · subst q; simp
    · have q2 : ¬ c = l := fun z => q z.symm
      simp [q, q2]
theorem note1_in {root : Nat} {fs : List Nat} {S : Gs} {l : Keys} {c : List Nat} (h1 : root ∉ c) (h2 : ¬ 0 < rest fs S c) (h3 : c ∉ l) : note1 root fs S l c = l ++ [c] := if_pos ⟨h1, h2, h3⟩
theorem note1_out {root : Nat} {fs : List Nat} {S : Gs} {l : Keys} {c : List Nat} (h : ¬ (root ∉ c ∧ ¬ 0 < rest fs S c ∧ c ∉ l)) : note1 root fs S l c = l := if_neg h
theorem RisV.grps {K : PySem.W.Frag} {H : Hp} {n : Nat} {h : Nat → Nat} {R : List Nat} {v : V} (n12 : n ≤ 12) (r : RisV K H n h R v) : GrpsV K H n (R.map (cls h n)) v := by
  obtain ⟨a, vs, rfl, h1, h2, h3⟩ := r.at_
  refine ⟨a, vs, rfl, .inl h1, ⟨by rw [h2, List.length_map], fun i l e => ?_⟩, fun l hl => ?_⟩
  · rw [List.getElem?_map] at e
    cases q : R[i]? with
    | none => rw [q] at e; cases e
    | some r =>
      rw [q] at e
      obtain rfl := Option.some.inj e
      exact h3 i r q
  · obtain ⟨r, _, rfl⟩ := List.mem_map.mp hl
    have := cls_len h n r
    exact ⟨by omega, fun x hx => (mem_cls.mp hx).1⟩
theorem FgAt.notup {K : PySem.W.Frag} {aC aD : Addr} {H : Hp} {g : FGd} {n root : Nat} {fs : List Nat} {ws : Wl} {S : Gs} {nt : Keys} (F : FgAt K aC aD H g n root fs ws S nt) {a : Addr} {xs : List V} (h : H a = some (.tup xs)) : ¬ Gm g a := fun m => by
  rcases m with m | m
  · obtain ⟨o, h1, h2, _⟩ := F.fd.not a m
    rw [h] at h1; exact h2 xs (Option.some.inj h1).symm
  · obtain ⟨vs, a1, _⟩ := F.nt
    rw [m, a1] at h; cases h
section
variable {P : Program} {w : World} {K : PySem.W.Frag} {mg : Str → Option Value} {base : Heap} {T : List Addr} {aC aD : Addr}
theorem ok_FineGrowth__note {f : Addr} {fd : FuncData} (F : Fun K "_note" "FineGrowth._note" sFineGrowth__note f fd) {fless : Addr} {fdless : FuncData} (Fless : Fun K "less" "less" sless fless fdless) (Gless : FnOk P w K mg base CX0 5 fless fdless ["first", "second"] (spLess K T)) (bless : Binds K fdless ["first", "second"] []) (gless : mg "less" = some (.ref fless)) {fFineGrowth__rest : Addr} {fdFineGrowth__rest : FuncData} (FFineGrowth__rest : Fun K "_rest" "FineGrowth._rest" sFineGrowth__rest fFineGrowth__rest fdFineGrowth__rest) (GFineGrowth__rest : FnOk P w K mg base CX0 5 fFineGrowth__rest fdFineGrowth__rest ["self", "group"] (spRest K T aC aD)) (bFineGrowth__rest : Binds K fdFineGrowth__rest ["self", "group"] []) (mmFineGrowth__rest : Meth K aD "_rest" fFineGrowth__rest) (fx : FTx K aC) (fy : FYx K aD) {az : Addr} (g_ZERO : mg "ZERO" = some (.ref az)) (hz0 : SqT K (fun _ => none) az [.int (frX 0), .int (frY 0)]) : FnOk P w K mg base CX0 6 f fd ["self", "found"] (spNote K T aC aD) := by
  refine F.ok scFineGrowth__note (fun vs H Q E h => ?_) (fun cdv A outer s H vs Q E hr h => ?_)
  · obtain ⟨g, n, root, t, fs, ws, S, nt, ls, gv, rfl, FG, O, hgv, hr0, hgm, l24, nl, wd, k⟩ := h
    rfl
  · obtain ⟨g, n, root, t, fs, ws, S, nt, ls, gv, rfl, FG, O, hgv, hr0, hgm, l24, nl, wd, k⟩ := h
    refine ⟨_, (pss_one (ps_for PassesOwn.never rfl (GE.pi_or (pi_tup (pv 1)) (pi_list (pv 1))) (pg_name (i := 2) scFineGrowth__note.nd rfl (Or.inl rfl)) (pss_cons (ps_set (i := 3) scFineGrowth__note.nd rfl (Or.inl rfl) (pe_and (pe_cmpR op_notIn_seq (pe_fld (pv 0) rfl) (pv 2) (by rfl)) (pe_one (pe_not (pe_call Gless hr (by rfl) gless Fless.kp bless .nil pass0 (pa_cons (pe_glob (v := .ref az) (by rfl) g_ZERO rfl) (pa_cons (pe_meth (pv 0) fy.cl mmFineGrowth__rest GFineGrowth__rest hr bFineGrowth__rest .nil pass0 (pa_cons (pv 2) pa_nil)) pa_nil)))))))
      (pss_one (ps_if (PW.pt (pw_and (pt_val (pv 3)) (pw_and1 (pt_cmpR (op_notInD (by have := hr.un; show (A.deeper _).units + 65 < _; omega)) (pv 2) (pe_fld (pv 0) rfl) (by rfl))))) (pss_one (ps_expr (pe_bm PySem.F.plainAttrs_list PySem.F.slot_list_append PySem.F.type_list_append mt_append (pe_fld (pv 0) rfl) (pa_cons (pv 2) pa_nil)))) pss_nil))))), ?_⟩
    have n12 := O.W.n12
    obtain ⟨a, vs, rfl, hav, hvs, hls⟩ := hgv
    have hgm := hgm a rfl
    have inv0 : ∃ y2 y3, ([some (V.ref g.p), some (V.ref a), none, none] : L2.St) = [some (V.ref g.p), some (V.ref a), y2, y3] ∧ FgAt K aC aD H g n root fs ws S (noteL root fs S nt (ls.take 0)) ∧ Ext T (Gm g) H H := ⟨none, none, rfl, FG, Ext.refl _ _ _⟩
    have fin : ∀ σ' H', (∃ y2 y3, σ' = [some (V.ref g.p), some (V.ref a), y2, y3] ∧ FgAt K aC aD H' g n root fs ws S (noteL root fs S nt (ls.take vs.length)) ∧ Ext T (Gm g) H H') → Q .non H' := fun σ' H' ⟨_, _, _, F, e⟩ => by
      rw [hvs.1, List.take_length] at F
      exact k H' F e
    have hstay : ∀ H', Ext T (Gm g) H H' → (H a = some (.tup vs) → H' a = some (.tup vs)) ∧ (H a = some (.lst vs) → H' a = some (.lst vs)) := fun H' e => ⟨fun h => e.tup hgm h, fun h => e.lst hgm h⟩
    rcases hav with hav | hav
    · refine .inl ⟨_, rfl, a, rfl, ⟨_, SqT.of hav⟩, for_tup (K := K) (a := a) (xs := vs) (fun i σ' H' => ∃ y2 y3, σ' = [some (V.ref g.p), some (V.ref a), y2, y3] ∧ FgAt K aC aD H' g n root fs ws S (noteL root fs S nt (ls.take i)) ∧ Ext T (Gm g) H H') inv0 (fun i σ' H' _ ⟨_, _, _, _, e⟩ => SqT.of ((hstay H' e).1 hav)) ?_ fin⟩
      rintro i x σ' H1 hx ⟨y2, y3, rfl, F1, e1⟩
    
      have hi : i < ls.length := by have := (List.getElem?_eq_some_iff.mp hx).1; have := hvs.1; omega
      have hli : ls[i]? = some ls[i] := List.getElem?_eq_getElem hi
      obtain ⟨gt, g1, g2⟩ := hvs.2 i ls[i] hli
      rw [hx] at g1
      obtain rfl := Option.some.inj g1
      have g3 := (FG.tp e1).tup _ _ g2
      obtain ⟨hl12, hln⟩ := hls ls[i] (List.getElem_mem hi)
      have hsn : noteL root fs S nt (ls.take (i + 1)) = note1 root fs S (noteL root fs S nt (ls.take i)) ls[i] := by rw [take_succ' hli, noteL_snoc]
      have hnl := noteL_len root fs S (ls.take i) nt
      rw [List.length_take] at hnl
      obtain ⟨dx, hob⟩ := F1.ob
      have same : ∀ (H' : Hp) (y2 y3 : Option V), FgAt K aC aD H' g n root fs ws S (noteL root fs S nt (ls.take i)) → Ext T (Gm g) H H' → ¬ (root ∉ ls[i] ∧ ¬ 0 < rest fs S ls[i] ∧ ls[i] ∉ noteL root fs S nt (ls.take i)) → ∃ z2 z3, ([some (V.ref g.p), some (V.ref a), y2, y3] : L2.St) = [some (V.ref g.p), some (V.ref a), z2, z3] ∧ FgAt K aC aD H' g n root fs ws S (noteL root fs S nt (ls.take (i + 1))) ∧ Ext T (Gm g) H H' := fun H' y2 y3 F e h => ⟨y2, y3, rfl, by rw [hsn, note1_out h]; exact F, e⟩
      refine ⟨_, rfl, g.p, aD, dx, _, _, rfl, hob, fy.cl, fy.n_root, gf_root _ _, _, rfl, gt, _, rfl, .inr (SqT.of g3), rfl, flat_nats _, ?_⟩
      rw [if_pos rfl, inV_nats]
      refine ⟨_, rfl, ?_⟩
      refine ite2 (fun q => ?_) (fun q => ?_)
      · have hroot : root ∉ ls[i] := fun z => by rw [decide_eq_true z] at q; cases q
        have hr := hr0 ls[i] (List.getElem_mem hi) hroot
        have hbd := rest_bd O hl12 hr
        refine ⟨_, rfl, g.p, dx, _, rfl, hob, by rfl, _, rfl, g, n, root, t, fs, ws, S, _, gt, ls[i], rfl, F1, O, g3, hln, hl12, wd.ext e1, fun v H2 hv e2 => ?_⟩
        refine ⟨.ref az, v, 0, _, rfl, zero_fr hz0, hv, ⟨by decide, by decide⟩, hbd, fun H3 e3 => ⟨_, rfl, ?_⟩⟩
        have e23 := e2.trans e3
        have F3 := F1.x e23
        have e13 := e1.trans e23.weak
        obtain ⟨dx3, hob3⟩ := F3.ob
        obtain ⟨nvs, hn1, hn2⟩ := F3.nt
        have g4 := e23.tup (fun z => z) g3
        refine ⟨_, rfl, _, rfl, ?_⟩
        refine ite2 (fun q2 => ?_) (fun q2 => iteF (same H3 _ _ F3 e13 ?_))
        · have hle : ¬ 0 < rest fs S ls[i] := fun z => by rw [decide_eq_true z] at q2; cases q2
          refine ⟨_, rfl, _, rfl, g.p, aD, dx3, _, _, rfl, hob3, fy.cl, fy.n_notes, gf_notes _ _, natD _, (noteL root fs S nt (ls.take i)).map natD, dp_nat g4, .lst (SqL.of hn1) (dp_keys _ _ hn2), natD_shaped _, keys_shaped _, _, rfl, ?_⟩
          rw [keys_any]
          refine ite2 (fun q3 => ?_) (fun q3 => same H3 _ _ F3 e13 ?_)
          · have hnot : ls[i] ∉ noteL root fs S nt (ls.take i) := fun z => by rw [decide_eq_true z] at q3; cases q3
            refine ⟨_, rfl, g.p, aD, dx3, _, _, rfl, hob3, fy.cl, fy.n_notes, gf_notes _ _, .inl ⟨rfl, _, SqL.of hn1⟩, _, rfl, g.ln, nvs, _, rfl, rfl, hn1, small1000 (by have := hn2.1; omega), ?_⟩
            exact ⟨_, _, rfl, by rw [hsn, note1_in hroot hle hnot]; exact F3.put hn1 hn2 g4, e13.mut (.inr (.inr rfl)) hn1 ltbl⟩
          · exact fun z => q3 (by rw [decide_eq_false z.2.2]; rfl)
        · exact fun z => q2 (by rw [decide_eq_false z.2.1]; rfl)
      · refine ⟨_, rfl, _, rfl, ?_⟩
        refine iteF (iteF (same H1 _ _ F1 e1 ?_))
        exact fun z => q (by rw [decide_eq_false z.1]; rfl)
    · refine .inr ⟨_, rfl, a, rfl, ⟨_, SqL.of hav⟩, for_list (K := K) (a := a) (xs := vs) (fun i σ' H' => ∃ y2 y3, σ' = [some (V.ref g.p), some (V.ref a), y2, y3] ∧ FgAt K aC aD H' g n root fs ws S (noteL root fs S nt (ls.take i)) ∧ Ext T (Gm g) H H') inv0 (fun i σ' H' _ ⟨_, _, _, _, e⟩ => SqL.of ((hstay H' e).2 hav)) ?_ fin⟩
      rintro i x σ' H1 hx ⟨y2, y3, rfl, F1, e1⟩
    
      have hi : i < ls.length := by have := (List.getElem?_eq_some_iff.mp hx).1; have := hvs.1; omega
      have hli : ls[i]? = some ls[i] := List.getElem?_eq_getElem hi
      obtain ⟨gt, g1, g2⟩ := hvs.2 i ls[i] hli
      rw [hx] at g1
      obtain rfl := Option.some.inj g1
      have g3 := (FG.tp e1).tup _ _ g2
      obtain ⟨hl12, hln⟩ := hls ls[i] (List.getElem_mem hi)
      have hsn : noteL root fs S nt (ls.take (i + 1)) = note1 root fs S (noteL root fs S nt (ls.take i)) ls[i] := by rw [take_succ' hli, noteL_snoc]
      have hnl := noteL_len root fs S (ls.take i) nt
      rw [List.length_take] at hnl
      obtain ⟨dx, hob⟩ := F1.ob
      have same : ∀ (H' : Hp) (y2 y3 : Option V), FgAt K aC aD H' g n root fs ws S (noteL root fs S nt (ls.take i)) → Ext T (Gm g) H H' → ¬ (root ∉ ls[i] ∧ ¬ 0 < rest fs S ls[i] ∧ ls[i] ∉ noteL root fs S nt (ls.take i)) → ∃ z2 z3, ([some (V.ref g.p), some (V.ref a), y2, y3] : L2.St) = [some (V.ref g.p), some (V.ref a), z2, z3] ∧ FgAt K aC aD H' g n root fs ws S (noteL root fs S nt (ls.take (i + 1))) ∧ Ext T (Gm g) H H' := fun H' y2 y3 F e h => ⟨y2, y3, rfl, by rw [hsn, note1_out h]; exact F, e⟩
      refine ⟨_, rfl, g.p, aD, dx, _, _, rfl, hob, fy.cl, fy.n_root, gf_root _ _, _, rfl, gt, _, rfl, .inr (SqT.of g3), rfl, flat_nats _, ?_⟩
      rw [if_pos rfl, inV_nats]
      refine ⟨_, rfl, ?_⟩
      refine ite2 (fun q => ?_) (fun q => ?_)
      · have hroot : root ∉ ls[i] := fun z => by rw [decide_eq_true z] at q; cases q
        have hr := hr0 ls[i] (List.getElem_mem hi) hroot
        have hbd := rest_bd O hl12 hr
        refine ⟨_, rfl, g.p, dx, _, rfl, hob, by rfl, _, rfl, g, n, root, t, fs, ws, S, _, gt, ls[i], rfl, F1, O, g3, hln, hl12, wd.ext e1, fun v H2 hv e2 => ?_⟩
        refine ⟨.ref az, v, 0, _, rfl, zero_fr hz0, hv, ⟨by decide, by decide⟩, hbd, fun H3 e3 => ⟨_, rfl, ?_⟩⟩
        have e23 := e2.trans e3
        have F3 := F1.x e23
        have e13 := e1.trans e23.weak
        obtain ⟨dx3, hob3⟩ := F3.ob
        obtain ⟨nvs, hn1, hn2⟩ := F3.nt
        have g4 := e23.tup (fun z => z) g3
        refine ⟨_, rfl, _, rfl, ?_⟩
        refine ite2 (fun q2 => ?_) (fun q2 => iteF (same H3 _ _ F3 e13 ?_))
        · have hle : ¬ 0 < rest fs S ls[i] := fun z => by rw [decide_eq_true z] at q2; cases q2
          refine ⟨_, rfl, _, rfl, g.p, aD, dx3, _, _, rfl, hob3, fy.cl, fy.n_notes, gf_notes _ _, natD _, (noteL root fs S nt (ls.take i)).map natD, dp_nat g4, .lst (SqL.of hn1) (dp_keys _ _ hn2), natD_shaped _, keys_shaped _, _, rfl, ?_⟩
          rw [keys_any]
          refine ite2 (fun q3 => ?_) (fun q3 => same H3 _ _ F3 e13 ?_)
          · have hnot : ls[i] ∉ noteL root fs S nt (ls.take i) := fun z => by rw [decide_eq_true z] at q3; cases q3
            refine ⟨_, rfl, g.p, aD, dx3, _, _, rfl, hob3, fy.cl, fy.n_notes, gf_notes _ _, .inl ⟨rfl, _, SqL.of hn1⟩, _, rfl, g.ln, nvs, _, rfl, rfl, hn1, small1000 (by have := hn2.1; omega), ?_⟩
            exact ⟨_, _, rfl, by rw [hsn, note1_in hroot hle hnot]; exact F3.put hn1 hn2 g4, e13.mut (.inr (.inr rfl)) hn1 ltbl⟩
          · exact fun z => q3 (by rw [decide_eq_false z.2.2]; rfl)
        · exact fun z => q2 (by rw [decide_eq_false z.2.1]; rfl)
      · refine ⟨_, rfl, _, rfl, ?_⟩
        refine iteF (iteF (same H1 _ _ F1 e1 ?_))
        exact fun z => q (by rw [decide_eq_false z.1]; rfl)
theorem ok_FineGrowth__awake_groups {f : Addr} {fd : FuncData} {c PT : Addr} (F : GE.FunC K "_awake_groups" "FineGrowth._awake_groups" sFineGrowth__awake_groups f fd c) (TB : GxR.TabB base mg c PT) (hPT : PT ∈ T) (m_tuple : mg "tuple" = none) {fField_groups_now : Addr} {fdField_groups_now : FuncData} (FField_groups_now : Fun K "groups_now" "Field.groups_now" sField_groups_now fField_groups_now fdField_groups_now) (GField_groups_now : FnOk P w K mg base CX0 7 fField_groups_now fdField_groups_now ["self"] (spNow K T aC)) (bField_groups_now : Binds K fdField_groups_now ["self"] []) (mmField_groups_now : Meth K aC "groups_now" fField_groups_now) {fless : Addr} {fdless : FuncData} (Fless : Fun K "less" "less" sless fless fdless) (Gless : FnOk P w K mg base CX0 5 fless fdless ["first", "second"] (spLess K T)) (bless : Binds K fdless ["first", "second"] []) (gless : mg "less" = some (.ref fless)) {fFineGrowth__rest : Addr} {fdFineGrowth__rest : FuncData} (FFineGrowth__rest : Fun K "_rest" "FineGrowth._rest" sFineGrowth__rest fFineGrowth__rest fdFineGrowth__rest) (GFineGrowth__rest : FnOk P w K mg base CX0 5 fFineGrowth__rest fdFineGrowth__rest ["self", "group"] (spRest K T aC aD)) (bFineGrowth__rest : Binds K fdFineGrowth__rest ["self", "group"] []) (mmFineGrowth__rest : Meth K aD "_rest" fFineGrowth__rest) (fx : FTx K aC) (fy : FYx K aD) {az : Addr} (g_ZERO : mg "ZERO" = some (.ref az)) (hz0 : SqT K (fun _ => none) az [.int (frX 0), .int (frY 0)]) : FnOk P w K mg base CX0 8 f fd ["self"] (spAwake K T aC aD) := by
  refine F.ok scFineGrowth__awake_groups (fun vs H Q E h => ?_) (fun A outer s H vs Q E hr h => ?_)
  · obtain ⟨g, n, root, t, fs, ws, S, nt, rfl, FG, O, wd, k⟩ := h
    rfl
  · obtain ⟨g, n, root, t, fs, ws, S, nt, rfl, FG, O, wd, k⟩ := h
    refine ⟨_, (pss_one (ps_ret (GE.pe_tupG (own := [("group", 1)]) (g := (gName 1)) (k := 5) hr (by rfl) m_tuple scFineGrowth__awake_groups.nd TB rfl (pi_tup (pe_meth0 (pe_fld (pv 0) rfl) fx.cl mmField_groups_now GField_groups_now hr bField_groups_now .nil pass0)) (GE.gblk_by (N := ["self", "group"]) (sc := defScope sFineGrowth__awake_groups) (by decide +kernel)) (fun _ _ _ _ _ _ _ _ => (pg_name (i := 1) scFineGrowth__awake_groups.nd rfl (Or.inl rfl))) (fun _ _ _ _ _ _ _ _ hr' => (pts_one (PW.pt (pw_and (pt_cmpR (GE.notIn_seqK (K := K)) (GE.pe_fldK (K := K) (pv 0) rfl) (pv 1) (by rfl)) (pw_and1 (pt_val (pe_call Gless hr' (by rfl) gless Fless.kp bless .nil pass0 (pa_cons (pe_glob (v := .ref az) (by rfl) g_ZERO rfl) (pa_cons (pe_meth (pv 0) fy.cl mmFineGrowth__rest GFineGrowth__rest hr' bFineGrowth__rest .nil pass0 (pa_cons (pv 1) pa_nil)) pa_nil))))))))) (fun _ _ _ _ _ _ _ _ hr' => (pv 1))))), ?_⟩
    have n12 := O.W.n12
    obtain ⟨dx, hob⟩ := FG.ob
    obtain ⟨dy, tv, hfo, _⟩ := FG.fd.ob
    refine ⟨_, rfl, g.p, aD, dx, _, _, rfl, hob, fy.cl, fy.n_field, gf_field _ _, g.f.p, dy, _, rfl, hfo, by rfl, g.f, n, t, ws, S, rfl, FG.fd, O.m.g, n12, wd, fun gv H1 RV e1 => ?_⟩
    obtain ⟨ra, rvs, rfl, hra, hrl, hrx⟩ := RV.at_
    have wd1 := wd.ext e1
    refine ⟨ra, rfl, ⟨_, SqT.of hra⟩, wd1 PT hPT, fun H2 tb => ?_⟩
    have e2 : Ext T noM H1 H2 := Ext.tab (wd1 PT hPT) tb
    have rl := reps_len S.h n
    generalize hp : (fun r => decide (root ∉ cls S.h n r) && decide (0 < rest fs S (cls S.h n r))) = p
    have hawk : awk n root fs S = (reps S.h n).filter p := by unfold awk; rw [hp]
    refine turn_tupI (K := K) (a := ra) (xs := rvs) (fun i ys H' => Ext T noM H1 H' ∧ ys.length = (((reps S.h n).take i).filter p).length ∧ ∀ (m r : Nat), (((reps S.h n).take i).filter p)[m]? = some r → ∃ t : Addr, ys[m]? = some (V.ref t) ∧ H1 t = some (.tup (natsV (cls S.h n r)))) ⟨e2, rfl, fun m r h => by simp at h⟩ (fun i ys H' _ q => SqT.of (q.1.tup (fun z => z) hra)) ?_ ?_
    · rintro ys H' ⟨e, hl, hx⟩ q hq
      rw [hrl, List.take_length, ← hawk] at hl hx
      exact k _ _ ⟨⟨q, ys, rfl, upd_same, hl, fun m r h => by obtain ⟨t, q1, q2⟩ := hx m r h; exact ⟨t, q1, (e.trans (Ext.new hq)).tup (fun z => z) q2⟩⟩, fun r hr => (mem_awk.mp hr).1⟩ (e1.trans (e.trans (Ext.new hq)))
    · rintro i x ys H' hx ⟨e, hl, hxx⟩ N hN
      have hi : i < (reps S.h n).length := by have := (List.getElem?_eq_some_iff.mp hx).1; omega
      obtain ⟨r, hr⟩ : ∃ r, (reps S.h n)[i]? = some r := ⟨_, List.getElem?_eq_getElem hi⟩
      obtain ⟨gt, g1, g2⟩ := hrx i r hr
      rw [hx] at g1
      obtain rfl := Option.some.inj g1
      obtain ⟨rn, rr⟩ := mem_reps'.mp (List.mem_of_getElem? hr)
      have hsn : ((reps S.h n).take (i + 1)).filter p = ((reps S.h n).take i).filter p ++ if p r = true then [r] else [] := by
        rw [take_succ' hr, List.filter_append]; by_cases z : p r = true <;> simp [z]
      have hfl := List.length_filter_le p ((reps S.h n).take i)
      rw [List.length_take] at hfl
      have e1' := e1.trans e
      have FG' := FG.x e1'
      obtain ⟨dx', hob'⟩ := FG'.ob
      have g3 := e.tup (fun z => z) g2
      have cl := cls_len S.h n r
      have cx : ∀ x ∈ cls S.h n r, x < n := fun x hx => (mem_cls.mp hx).1
      have no : ∀ H4, Ext T noM H' H4 → p r = false → N ys H4 := fun H4 e4 z => by
        rw [if_neg (by rw [z]; exact Bool.false_ne_true), List.append_nil] at hsn
        exact hN _ _ ⟨e.trans e4, by rw [hsn]; exact hl, by rw [hsn]; exact hxx⟩
      refine ⟨rfl, ?_⟩
      refine ⟨_, rfl, g.p, aD, dx', _, _, rfl, hob', fy.cl, fy.n_root, gf_root _ _, _, rfl, gt, _, rfl, .inr (SqT.of g3), rfl, flat_nats _, _, rfl, ?_⟩
      rw [if_pos rfl, inV_nats]
      refine ite2 (fun q => ?_) (fun q => iteF (no _ (Ext.refl _ _ _) ?_))
      · have hroot : root ∉ cls S.h n r := fun z => by rw [decide_eq_true z] at q; cases q
        have hr0 := O.m.r0 r rn rr hroot
        have hbd := rest_bd O (by omega) hr0
        refine ⟨_, rfl, g.p, dx', _, rfl, hob', by rfl, _, rfl, g, n, root, t, fs, ws, S, nt, gt, cls S.h n r, rfl, FG', O, g3, cx, by omega, wd.ext e1', fun v H3 hv e3 => ?_⟩
        refine ⟨.ref az, v, 0, _, rfl, zero_fr hz0, hv, ⟨by decide, by decide⟩, hbd, fun H4 e4 => ⟨_, rfl, ?_⟩⟩
        have e34 := e3.trans e4
        refine ite2 (fun q2 => ?_) (fun q2 => no _ e34 ?_)
        · have hpr : p r = true := by rw [← hp]; show (decide _ && decide _) = true; rw [decide_eq_true hroot, q2]; rfl
          rw [if_pos hpr] at hsn
          refine ⟨_, rfl, small1000 (by omega), hN _ _ ⟨e.trans e34, by rw [hsn, List.length_append, List.length_append, hl]; rfl, fun m r' h => ?_⟩⟩
          rw [hsn] at h
          by_cases hm : m < (((reps S.h n).take i).filter p).length
          · rw [List.getElem?_append_left hm] at h
            obtain ⟨t, q1, q2⟩ := hxx m r' h
            exact ⟨t, by rw [List.getElem?_append_left (by omega)]; exact q1, q2⟩
          · rw [List.getElem?_append_right (by omega)] at h
            have hm2 : m = (((reps S.h n).take i).filter p).length := by
              have := (List.getElem?_eq_some_iff.mp h).1
              simp at this; omega
            subst hm2
            have : r = r' := by simpa using h
            subst this
            exact ⟨gt, by rw [List.getElem?_append_right (by omega), hl]; simp, g2⟩
        · rw [← hp]; show (decide _ && decide _) = false
          rw [Bool.eq_false_iff.mpr q2, Bool.and_false]
      · rw [← hp]; show (decide _ && decide _) = false
        have z : root ∈ cls S.h n r := Classical.byContradiction fun y => q (by rw [decide_eq_false y]; rfl)
        rw [decide_eq_false (fun y => y z), Bool.false_and]
theorem ok_FineGrowth__span_until_change {f : Addr} {fd : FuncData} (F : Fun K "_span_until_change" "FineGrowth._span_until_change" sFineGrowth__span_until_change f fd) {fField_span_until_full : Addr} {fdField_span_until_full : FuncData} (FField_span_until_full : Fun K "span_until_full" "Field.span_until_full" sField_span_until_full fField_span_until_full fdField_span_until_full) (GField_span_until_full : FnOk P w K mg base CX0 5 fField_span_until_full fdField_span_until_full ["self", "rising"] (spSpan K T aC)) (bField_span_until_full : Binds K fdField_span_until_full ["self", "rising"] []) (mmField_span_until_full : Meth K aC "span_until_full" fField_span_until_full) {fFineGrowth__rest : Addr} {fdFineGrowth__rest : FuncData} (FFineGrowth__rest : Fun K "_rest" "FineGrowth._rest" sFineGrowth__rest fFineGrowth__rest fdFineGrowth__rest) (GFineGrowth__rest : FnOk P w K mg base CX0 5 fFineGrowth__rest fdFineGrowth__rest ["self", "group"] (spRest K T aC aD)) (bFineGrowth__rest : Binds K fdFineGrowth__rest ["self", "group"] []) (mmFineGrowth__rest : Meth K aD "_rest" fFineGrowth__rest) {fless : Addr} {fdless : FuncData} (Fless : Fun K "less" "less" sless fless fdless) (Gless : FnOk P w K mg base CX0 5 fless fdless ["first", "second"] (spLess K T)) (bless : Binds K fdless ["first", "second"] []) (gless : mg "less" = some (.ref fless)) (fx : FTx K aC) (fy : FYx K aD) : FnOk P w K mg base CX0 6 f fd ["self", "awake"] (spChange K T aC aD) := by
  refine F.ok scFineGrowth__span_until_change (fun vs H Q E h => ?_) (fun cdv A outer s H vs Q E hr h => ?_)
  · obtain ⟨g, n, root, t, fs, ws, S, nt, rv, rfl, FG, O, t12, hf, hne, RV, wd, k⟩ := h
    rfl
  · obtain ⟨g, n, root, t, fs, ws, S, nt, rv, rfl, FG, O, t12, hf, hne, RV, wd, k⟩ := h
    refine ⟨_, (pss_cons (ps_set (i := 2) scFineGrowth__span_until_change.nd rfl (Or.inl rfl) (pe_meth (pe_fld (pv 0) rfl) fx.cl mmField_span_until_full GField_span_until_full hr bField_span_until_full .nil pass0 (pa_cons (pv 1) pa_nil)))
      (pss_cons (ps_for PassesOwn.never rfl (pi_tup (pv 1)) (pg_name (i := 3) scFineGrowth__span_until_change.nd rfl (Or.inl rfl)) (pss_cons (ps_set (i := 4) scFineGrowth__span_until_change.nd rfl (Or.inl rfl) (pe_meth (pv 0) fy.cl mmFineGrowth__rest GFineGrowth__rest hr bFineGrowth__rest .nil pass0 (pa_cons (pv 3) pa_nil)))
      (pss_one (ps_if (PW.pt (pw_or (pt_cmpR op_isN (pv 2) pe_non (nomark _)) (pw_or1 (pt_val (pe_call Gless hr (by rfl) gless Fless.kp bless .nil pass0 (pa_cons (pv 4) (pa_cons (pv 2) pa_nil))))))) (pss_one (ps_set (i := 2) scFineGrowth__span_until_change.nd rfl (Or.inl rfl) (pv 4))) pss_nil))))
      (pss_one (ps_ret (pv 2))))), ?_⟩
    have n12 := O.W.n12
    have Wo := wf_ok O.W
    obtain ⟨dx, hob⟩ := FG.ob
    obtain ⟨dy, tv, hfo, _⟩ := FG.fd.ob
    refine ⟨_, rfl, g.p, aD, dx, _, _, rfl, hob, fy.cl, fy.n_field, gf_field _ _, g.f.p, dy, _, rfl, hfo, by rfl, _, rfl, g.f, n, t, ws, S, awk n root fs S, rv, rfl, FG.fd, Wo, O.m.g, O.W.ln, t12, RV, fun bv H1 hbv e1 => ?_⟩
    obtain ⟨ra, rvs, rfl, hra, hrl, hrx⟩ := id (RV.x e1).at_
    obtain ⟨x0, hx0, hsp, x0p, _, _, _⟩ := spanF_ok O.m.g t12 hf hne
    have cbd : ∀ c ∈ canW ws S (awk n root fs S), bd (cand ws S (awk n root fs S) c) := fun c hc => by
      obtain ⟨k1, k2, k3⟩ := mem_canW.mp hc
      exact cand_bd Wo O.m.g t12 _ k1 k3
    have hrest : ∀ r ∈ awk n root fs S, bd (rest fs S (cls S.h n r)) := fun r hr => by
      obtain ⟨⟨k1, k2⟩, k3, k4⟩ := mem_awk.mp hr
      exact rest_bd O (by have := cls_len S.h n r; omega) (Int.le_of_lt k4)
    have lbd : ∀ (l : List Int) (o : Option Int), (∀ x ∈ l, bd x) → (∀ x, o = some x → bd x) → ∀ x, l.foldl less1 o = some x → bd x := fun l o h1 h2 x hx => by
      rcases (least_some l o x hx).1 with z | z
      · exact h2 x z
      · exact h1 x z
    have hle0 : ∀ x, least ((canW ws S (awk n root fs S)).map (cand ws S (awk n root fs S))) = some x → bd x := lbd _ none (fun x hx => by obtain ⟨c, hc, rfl⟩ := List.mem_map.mp hx; exact cbd c hc) (fun x h => nomatch h)
    refine ⟨_, rfl, ra, rfl, ⟨_, SqT.of hra⟩, for_tup (K := K) (a := ra) (xs := rvs) (fun i σ' H' => ∃ bv y3 y4, σ' = [some (.ref g.p), some (.ref ra), some bv, y3, y4] ∧ Ext T noM H H' ∧ Ext T noM H1 H' ∧
        (match (((awk n root fs S).take i).map fun r => rest fs S (cls S.h n r)).foldl less1 (least ((canW ws S (awk n root fs S)).map (cand ws S (awk n root fs S)))) with | some x => FrV K H' x bv | none => bv = .non)) ⟨bv, none, none, rfl, e1, Ext.refl _ _ _, hbv⟩ (fun i σ' H' _ ⟨_, _, _, _, _, e, _⟩ => SqT.of (e.tup (fun z => z) hra)) ?_ ?_⟩
    · rintro i x σ' H2 hx ⟨bv, y3, y4, rfl, e2, e12, hb⟩
      have hi : i < (awk n root fs S).length := by have := (List.getElem?_eq_some_iff.mp hx).1; omega
      obtain ⟨r, hr⟩ : ∃ r, (awk n root fs S)[i]? = some r := ⟨_, List.getElem?_eq_getElem hi⟩
      have hrm := List.mem_of_getElem? hr
      obtain ⟨gt, g1, g2⟩ := hrx i r hr
      rw [hx] at g1
      obtain rfl := Option.some.inj g1
      have g3 := e12.tup (fun z => z) g2
      have FG2 := FG.x e2
      obtain ⟨dx2, hob2⟩ := FG2.ob
      have cl := cls_len S.h n r
      have hfs : (((awk n root fs S).take (i + 1)).map fun r => rest fs S (cls S.h n r)).foldl less1 (least ((canW ws S (awk n root fs S)).map (cand ws S (awk n root fs S)))) = less1 ((((awk n root fs S).take i).map fun r => rest fs S (cls S.h n r)).foldl less1 (least ((canW ws S (awk n root fs S)).map (cand ws S (awk n root fs S))))) (rest fs S (cls S.h n r)) := by
        rw [take_succ' hr, List.map_append, List.foldl_append]; rfl
      refine ⟨_, rfl, g.p, dx2, _, rfl, hob2, by rfl, _, rfl, g, n, root, t, fs, ws, S, nt, gt, cls S.h n r, rfl, FG2, O, g3, fun x hx => (mem_cls.mp hx).1, by omega, wd.ext e2, fun v H3 hv e3 => ?_⟩
      have e23 := e2.trans e3
      have e13 := e12.trans e3
      have b1 := hrest r hrm
      cases hle : (((awk n root fs S).take i).map fun r => rest fs S (cls S.h n r)).foldl less1 (least ((canW ws S (awk n root fs S)).map (cand ws S (awk n root fs S)))) with
      | none =>
        rw [hle] at hb hfs
        have hb : bv = .non := hb
        subst hb
        refine ⟨_, rfl, rfl, _, rfl, iteT (iteT ?_)⟩
        exact ⟨_, rfl, v, _, _, rfl, e23, e13, by rw [hfs]; exact hv⟩
      | some x =>
        rw [hle] at hb hfs
        obtain ⟨ba, rfl, hba⟩ := id hb
        have bx : bd x := lbd _ _ (fun y hy => by
          obtain ⟨q, hq, rfl⟩ := List.mem_map.mp hy
          exact hrest q (List.mem_of_mem_take hq)) hle0 x hle
        refine ⟨_, rfl, rfl, _, rfl, iteF ?_⟩
        refine ⟨_, rfl, _, rfl, v, .ref ba, _, _, rfl, hv, FrV.x hb e3, b1, bx, fun H4 e4 => ⟨_, rfl, ?_⟩⟩
        refine ite2 (fun q => ?_) (fun q => ?_)
        · have q' := of_decide_eq_true q
          refine ⟨_, rfl, v, _, _, rfl, e23.trans e4, e13.trans e4, ?_⟩
          rw [hfs]; show (match (if rest fs S (cls S.h n r) < x then some (rest fs S (cls S.h n r)) else some x) with | some x => FrV K H4 x v | none => v = .non)
          rw [if_pos q']; exact hv.x e4
        · have q' : ¬ rest fs S (cls S.h n r) < x := fun z => q (decide_eq_true z)
          refine ⟨.ref ba, _, _, rfl, e23.trans e4, e13.trans e4, ?_⟩
          rw [hfs]; show (match (if rest fs S (cls S.h n r) < x then some (rest fs S (cls S.h n r)) else some x) with | some x => FrV K H4 x (.ref ba) | none => (.ref ba : V) = .non)
          rw [if_neg q']; exact FrV.x hb (e3.trans e4)
    · rintro σ' H2 ⟨bv, y3, y4, rfl, e2, e12, hb⟩
      rw [hrl, List.take_length, hx0] at hb
      exact ⟨_, rfl, k bv H2 (by rw [hsp]; exact hb) e2⟩
theorem ok_FineGrowth__take_and_note {f : Addr} {fd : FuncData} (F : Fun K "_take_and_note" "FineGrowth._take_and_note" sFineGrowth__take_and_note f fd) {fFineGrowth__note : Addr} {fdFineGrowth__note : FuncData} (FFineGrowth__note : Fun K "_note" "FineGrowth._note" sFineGrowth__note fFineGrowth__note fdFineGrowth__note) (GFineGrowth__note : FnOk P w K mg base CX0 6 fFineGrowth__note fdFineGrowth__note ["self", "found"] (spNote K T aC aD)) (bFineGrowth__note : Binds K fdFineGrowth__note ["self", "found"] []) (mmFineGrowth__note : Meth K aD "_note" fFineGrowth__note) {fField_take_full_ways : Addr} {fdField_take_full_ways : FuncData} (FField_take_full_ways : Fun K "take_full_ways" "Field.take_full_ways" sField_take_full_ways fField_take_full_ways fdField_take_full_ways) (GField_take_full_ways : FnOk P w K mg base CX0 6 fField_take_full_ways fdField_take_full_ways ["self"] (spFull K T aC)) (bField_take_full_ways : Binds K fdField_take_full_ways ["self"] []) (mmField_take_full_ways : Meth K aC "take_full_ways" fField_take_full_ways) {fField_groups_now : Addr} {fdField_groups_now : FuncData} (FField_groups_now : Fun K "groups_now" "Field.groups_now" sField_groups_now fField_groups_now fdField_groups_now) (GField_groups_now : FnOk P w K mg base CX0 6 fField_groups_now fdField_groups_now ["self"] (spNow K T aC)) (bField_groups_now : Binds K fdField_groups_now ["self"] []) (mmField_groups_now : Meth K aC "groups_now" fField_groups_now) (fx : FTx K aC) (fy : FYx K aD) : FnOk P w K mg base CX0 7 f fd ["self"] (spTan K T aC aD) := by
  refine F.ok scFineGrowth__take_and_note (fun vs H Q E h => ?_) (fun cdv A outer s H vs Q E hr h => ?_)
  · obtain ⟨g, n, root, t, fs, ws, S, nt, rfl, FG, O, hcnt, nl, wd, k⟩ := h
    rfl
  · obtain ⟨g, n, root, t, fs, ws, S, nt, rfl, FG, O, hcnt, nl, wd, k⟩ := h
    refine ⟨_, (pss_cons (ps_expr (pe_meth (pv 0) fy.cl mmFineGrowth__note GFineGrowth__note hr bFineGrowth__note .nil pass0 (pa_cons (pe_meth0 (pe_fld (pv 0) rfl) fx.cl mmField_take_full_ways GField_take_full_ways hr bField_take_full_ways .nil pass0) pa_nil)))
      (pss_one (ps_expr (pe_meth (pv 0) fy.cl mmFineGrowth__note GFineGrowth__note hr bFineGrowth__note .nil pass0 (pa_cons (pe_meth0 (pe_fld (pv 0) rfl) fx.cl mmField_groups_now GField_groups_now hr bField_groups_now .nil pass0) pa_nil))))), ?_⟩
    have n12 := O.W.n12
    have Wo := wf_ok O.W
    obtain ⟨dx, hob⟩ := FG.ob
    obtain ⟨dy, tv, hfo, _⟩ := FG.fd.ob
    have rl := reps_len S.h n
    have O' : FOk n root t fs ws (takeAll ws n S) := by
      have e := takeAll_time ws n S
      exact ⟨O.W, O.F, O.rn, (FM.takeAll Wo O.m rl).1, O.t12, by rw [e.2.2]; exact O.nd, by rw [e.2.2]; exact O.wl⟩
    refine ⟨_, rfl, g.p, dx, _, rfl, hob, by rfl, _, rfl, g.p, aD, dx, _, _, rfl, hob, fy.cl, fy.n_field, gf_field _ _, g.f.p, dy, _, rfl, hfo, by rfl, g.f, n, t, ws, S, rfl, FG.fd, Wo, O.m.g, O.t12, hcnt, fun b bvs H1 hb1 TL hbM hbn F1 e1 => ?_⟩
    rw [bornAll_eq] at TL
    obtain ⟨bl, bok⟩ := born_ok (n := n) (ws := ws) n S
    have FG1 := FG.fld e1 F1
    have bnl : b ≠ g.ln := fun z => by obtain ⟨vs, q, _⟩ := FG.nt; rw [z, q] at hbn; cases hbn
    have wd1 := wd.ext e1
    have rest_eq2 : ∀ l, rest fs (takeAll ws n S) l = rest fs S l := fun l => by unfold rest; rw [(takeAll_time ws n S).2.2]
    refine ⟨g, n, root, t, fs, ws, takeAll ws n S, nt, born ws n n S, .ref b, rfl, FG1, O', ⟨b, bvs, rfl, .inr hb1, TL, fun l hl => ⟨by have := (bok l hl).1; omega, (bok l hl).2⟩⟩, fun l hl hr => ?_, fun a ha => ?_, by omega, by omega, wd1, fun H2 F2 e2 => ?_⟩
    · rw [rest_eq2]; exact born_rest Wo n O.m l hl hr
    · obtain rfl := V.ref.inj ha
      exact fun m => m.elim hbM bnl
    obtain ⟨dx2, hob2⟩ := F2.ob
    obtain ⟨dy2, tv2, hfo2, _⟩ := F2.fd.ob
    have wd2 := wd1.ext e2
    have nl2 := noteL_len root fs (takeAll ws n S) (born ws n n S) nt
    refine ⟨_, rfl, g.p, dx2, _, rfl, hob2, by rfl, _, rfl, g.p, aD, dx2, _, _, rfl, hob2, fy.cl, fy.n_field, gf_field _ _, g.f.p, dy2, _, rfl, hfo2, by rfl, g.f, n, t, ws, takeAll ws n S, rfl, F2.fd, O'.m.g, n12, wd2, fun gv H3 RV e3 => ?_⟩
    have F3 := F2.x e3
    obtain ⟨ra, rvs, rfl, hra, _, _⟩ := id RV.at_
    have rl2 := reps_len (takeAll ws n S).h n
    refine ⟨g, n, root, t, fs, ws, takeAll ws n S, _, (reps (takeAll ws n S).h n).map (cls (takeAll ws n S).h n), .ref ra, rfl, F3, O', RV.grps n12, fun l hl hr => ?_, fun a ha => ?_, by rw [List.length_map]; omega, by omega, wd2.ext e3, fun H4 F4 e4 => ?_⟩
    · obtain ⟨r, hr1, rfl⟩ := List.mem_map.mp hl
      obtain ⟨rn, rr⟩ := mem_reps'.mp hr1
      exact O'.m.r0 r rn rr hr
    · obtain rfl := V.ref.inj ha
      exact F3.notup hra
    exact k H4 F4 ((e1.fm.trans e2).trans (e3.gm.trans e4))
end
end Mw

set_option Elab.async false
set_option linter.all false
set_option maxRecDepth 100000
set_option maxHeartbeats 4000000
namespace Mw
open PySem PySem.Spec PyProof.Rows L2 GE
/-- an object that is no attribute is written -/
theorem FieldAt.ow {K : PySem.W.Frag} {aC : Addr} {H : Hp} {f : FAd} {n : Nat} {ws : Wl} {S : Gs} {l : Addr} {old new : HO} (F : FieldAt K aC H f n ws S) (hl : ¬ Fm f l) (h : H l = some old) (n1 : ∀ xs, old ≠ .tup xs) (n2 : ∀ o xs, old ≠ .frz o xs) : FieldAt K aC (upd H l new) f n ws S := by
  have t : Tp K H (upd H l new) := Tp.mut h n1 n2
  have ne : ∀ b, Fm f b → b ≠ l := fun b m z => hl (z ▸ m)
  obtain ⟨dx, tv, h1, h2⟩ := F.ob
  obtain ⟨v1, a1, a2⟩ := F.tk
  obtain ⟨v2, b1, b2⟩ := F.wd
  obtain ⟨v3, c1, c2, c3⟩ := F.hm
  obtain ⟨v4, d1, d2, d3⟩ := F.dp
  obtain ⟨wa, us, e1, e2, e3⟩ := F.wy
  exact ⟨⟨dx, tv, by rw [upd_ne (ne _ (.inl rfl))]; exact h1, t.fr h2⟩, ⟨v1, by rw [upd_ne (ne _ (.inr (.inl rfl)))]; exact a1, t.tk a2⟩, ⟨v2, by rw [upd_ne (ne _ (.inr (.inr (.inl rfl))))]; exact b1, t.wd b2⟩,
    ⟨v3, by rw [upd_ne (ne _ (.inr (.inr (.inr (.inl rfl)))))]; exact c1, c2, fun x hx => by obtain ⟨s, q1, q2⟩ := c3 x hx; exact ⟨s, q1, t.tup _ _ q2⟩⟩,
    ⟨v4, by rw [upd_ne (ne _ (.inr (.inr (.inr (.inr rfl)))))]; exact d1, d2, fun x hx => by obtain ⟨v, q1, q2⟩ := d3 x hx; exact ⟨v, q1, t.fr q2⟩⟩, ⟨wa, us, e1, t.tup _ _ e2, t.rpl e3⟩, F.ne⟩
theorem noteL_sub (root : Nat) (fs : List Nat) (S : Gs) : ∀ (cs l : Keys), ∀ c ∈ l, c ∈ noteL root fs S l cs
  | [], l, c, h => h
  | d :: cs, l, c, h => by
    refine noteL_sub root fs S cs (note1 root fs S l d) c ?_
    unfold note1; split
    · exact List.mem_append_left _ h
    · exact h
theorem noteL_in (root : Nat) (fs : List Nat) (S : Gs) : ∀ (cs l : Keys), ∀ c ∈ cs, root ∉ c → ¬ 0 < rest fs S c → c ∈ noteL root fs S l cs
  | d :: cs, l, c, h, h1, h2 => by
    rcases List.mem_cons.mp h with z | z
    · subst z
      refine noteL_sub root fs S cs (note1 root fs S l c) c ?_
      by_cases q : c ∈ l
      · rw [note1_out (fun y => y.2.2 q)]; exact q
      · rw [note1_in h1 h2 q]; exact List.mem_append_right _ (List.mem_singleton.mpr rfl)
    · exact noteL_in root fs S cs _ c z h1 h2
theorem noteL_idem (root : Nat) (fs : List Nat) (S : Gs) : ∀ (cs l : Keys), (∀ c ∈ cs, root ∉ c → ¬ 0 < rest fs S c → c ∈ l) → noteL root fs S l cs = l
  | [], l, _ => rfl
  | d :: cs, l, h => by
    have e : note1 root fs S l d = l := note1_out fun z => z.2.2 (h d List.mem_cons_self z.1 z.2.1)
    show noteL root fs S (note1 root fs S l d) cs = l
    rw [e]
    exact noteL_idem root fs S cs l fun c hc => h c (List.mem_cons_of_mem _ hc)
theorem _root_.GE.Ext.dropM {T : List Addr} {M1 M2 : Addr → Prop} {H1 H2 H' : Hp} (a : Ext T M1 H1 H2) (b : Ext T M2 H2 H') (hM : ∀ b, M2 b → H1 b = none) : Ext T M1 H1 H' :=
  ⟨fun x o m e n => b.kp x o (fun z => by rw [hM x z] at e; cases e) (a.kp x o m e n) n, fun P hP h => b.tb P hP (a.tb P hP h), fun x h => a.fr x (b.fr x h)⟩
def spFInit (K : PySem.W.Frag) (T : List Addr) (aC aD : Addr) : Sp := fun vs H Q _ => ∃ (p dx : Addr) (net fv : V) (n root : Nat) (fs : List Nat) (ws : Wl), vs = [.ref p, net, .int (root : Nat), fv] ∧ H p = some (.ins aD dx []) ∧ Wf n ws ∧ Rp H (netD n ws) net ∧ Rp H (finD fs) fv ∧ FnOkF n fs ∧ root < n ∧ Wd T H ∧
  ∀ g H', g.p = p → FgAt K aC aD H' g n root fs ws (allF n root fs ws).1 (allF n root fs ws).2 → Ext T (fun b => b = p) H H' → (∀ b, Gm g b → H b = none) → Q .non H'
theorem awk_len (n root : Nat) (fs : List Nat) (S : Gs) : (awk n root fs S).length ≤ n := by
  have h1 := List.length_filter_le (fun r => decide (root ∉ cls S.h n r) && decide (0 < rest fs S (cls S.h n r))) (reps S.h n)
  have h2 := reps_len S.h n
  unfold awk; omega
theorem wid_grow_len {n : Nat} {S : Gs} {R : List Nat} {x : Int} (nd : (S.wid.map (·.1)).Nodup) : ((grow n S R x).wid.map (·.1)).Nodup ∧ (grow n S R x).wid.length ≤ S.wid.length + R.length := fold_nd (n := n) (h := S.h) (s := x) R nd
/-- between turns, with the lengths -/
structure FJ (n root : Nat) (fs : List Nat) (ws : Wl) (t b m : Nat) (S : Gs) (nt : Keys) : Prop where
  i : FI n root fs ws t b S
  nd : (S.wid.map (·.1)).Nodup
  wl : S.wid.length + 12 * m ≤ 288
  tk : S.taken.length + (reps S.h n).length ≤ n
  nl : nt.length + 24 * m ≤ 600
  bb : b + 12 * m ≤ 288
  mm : (reps S.h n).length + (awk n root fs S).length ≤ m
theorem takeAll_cntB {n t b : Nat} {ws : Wl} (W : WsOk n ws) : ∀ (k : Nat) {S : Gs}, GB n ws t b S → (takeAll ws k S).taken.length + (reps (takeAll ws k S).h n).length ≤ S.taken.length + (reps S.h n).length
  | 0, S, _ => Nat.le_refl _
  | k + 1, S, G => by
    cases e : first ws S with
    | none => rw [takeAll_stop e]; exact Nat.le_refl _
    | some c =>
      rw [takeAll_go e]
      obtain ⟨hc, hx, _⟩ := first_some e
      obtain ⟨G2, hlt⟩ := G.take W hc hx
      have ih := takeAll_cntB W k G2
      have : (take1 ws S c).taken.length = S.taken.length + 1 := by show (S.taken ++ [_]).length = _; rw [List.length_append]; rfl
      omega
theorem FJ.turn {n root t b m : Nat} {fs : List Nat} {ws : Wl} {S : Gs} {nt : Keys} (W : WsOk n ws) (hb : ∀ f ∈ fs, f ≤ 10000) (J : FJ n root fs ws t b (m + 1) S nt) (hA : awk n root fs S ≠ []) : ∃ t', FJ n root fs ws t' (b + 12) m (turnF n root fs ws (S, nt)).1 (turnF n root fs ws (S, nt)).2 := by
  obtain ⟨t12, t', F2, hlt⟩ := J.i.turn W hb hA
  have n12 := W.n12
  have e := takeAll_time ws n (grow n S (awk n root fs S) (spanF n root fs ws S))
  obtain ⟨f1, f2⟩ := wid_grow_len (n := n) (S := S) (R := awk n root fs S) (x := spanF n root fs ws S) J.nd
  have al := awk_len n root fs S
  obtain ⟨t2, _, FG, _⟩ := J.i.m.grow hb n12 t12 J.i.f hA
  have tc := takeAll_cntB W n FG.g
  have h1 := J.wl
  have h2 := J.tk
  have h3 := J.nl
  have h4 := J.bb
  have h5 := J.mm
  refine ⟨t', F2, ?_, ?_, ?_, ?_, by omega, ?_⟩
  · show ((takeAll ws n (grow n S (awk n root fs S) (spanF n root fs ws S))).wid.map (·.1)).Nodup
    rw [e.2.2]; exact f1
  · show (takeAll ws n (grow n S (awk n root fs S) (spanF n root fs ws S))).wid.length + 12 * m ≤ 288
    rw [e.2.2]; omega
  · exact Nat.le_trans tc h2
  · have q1 := noteL_len root fs (takeAll ws n (grow n S (awk n root fs S) (spanF n root fs ws S))) ((reps (takeAll ws n (grow n S (awk n root fs S) (spanF n root fs ws S))).h n).map (cls (takeAll ws n (grow n S (awk n root fs S) (spanF n root fs ws S))).h n)) (noteL root fs (takeAll ws n (grow n S (awk n root fs S) (spanF n root fs ws S))) nt (born ws n n (grow n S (awk n root fs S) (spanF n root fs ws S))))
    have q2 := noteL_len root fs (takeAll ws n (grow n S (awk n root fs S) (spanF n root fs ws S))) (born ws n n (grow n S (awk n root fs S) (spanF n root fs ws S))) nt
    have q3 := (born_ok (n := n) (ws := ws) n (grow n S (awk n root fs S) (spanF n root fs ws S))).1
    have q4 := reps_len (takeAll ws n (grow n S (awk n root fs S) (spanF n root fs ws S))).h n
    rw [List.length_map] at q1
    show (noteL root fs (takeAll ws n (grow n S (awk n root fs S) (spanF n root fs ws S))) (noteL root fs (takeAll ws n (grow n S (awk n root fs S) (spanF n root fs ws S))) nt (born ws n n (grow n S (awk n root fs S) (spanF n root fs ws S)))) ((reps (takeAll ws n (grow n S (awk n root fs S) (spanF n root fs ws S))).h n).map (cls (takeAll ws n (grow n S (awk n root fs S) (spanF n root fs ws S))).h n))).length + 24 * m ≤ 600
    omega
  · show (reps (takeAll ws n (grow n S (awk n root fs S) (spanF n root fs ws S))).h n).length + (awk n root fs (takeAll ws n (grow n S (awk n root fs S) (spanF n root fs ws S)))).length ≤ m
    omega
theorem FJ.start {n root : Nat} {fs : List Nat} {ws : Wl} (W : WsOk n ws) : FJ n root fs ws 0 0 (2 * n) Mw.start (noteL root fs Mw.start [] ((reps Mw.start.h n).map (cls Mw.start.h n))) := by
  have n12 := W.n12
  have h1 := reps_len Mw.start.h n
  have h2 := awk_len n root fs Mw.start
  have h3 := noteL_len root fs Mw.start ((reps Mw.start.h n).map (cls Mw.start.h n)) []
  rw [List.length_map, List.length_nil] at h3
  refine ⟨FI.start W, List.nodup_nil, ?_, ?_, by omega, by omega, by omega⟩
  · show 0 + 12 * (2 * n) ≤ 288; omega
  · show 0 + _ ≤ n; omega
theorem FJ.ok {n root t b m : Nat} {fs : List Nat} {ws : Wl} {S : Gs} {nt : Keys} (W : Wf n ws) (F : FnOkF n fs) (rn : root < n) (J : FJ n root fs ws t b m S nt) : FOk n root t fs ws S := by
  have h1 := J.bb
  have h2 := J.wl
  have h3 := J.i.c
  have h4 := W.n12
  exact ⟨W, F, rn, J.i.m.mono (by omega), by omega, J.nd, by omega⟩
section
variable {P : Program} {w : World} {K : PySem.W.Frag} {mg : Str → Option Value} {base : Heap} {T : List Addr} {aC aD : Addr}
theorem ok_FineGrowth___init__ {f : Addr} {fd : FuncData} (F : Fun K "__init__" "FineGrowth.__init__" sFineGrowth___init__ f fd) {fField___init__ : Addr} {fdField___init__ : FuncData} (FField___init__ : Fun K "__init__" "Field.__init__" sField___init__ fField___init__ fdField___init__) (GField___init__ : FnOk P w K mg base CX0 7 fField___init__ fdField___init__ ["self", "net"] (spInit K T aC)) (bField___init__ : Binds K fdField___init__ ["self", "net"] []) (MField : Mk K aC fField___init__) {fFineGrowth__note : Addr} {fdFineGrowth__note : FuncData} (FFineGrowth__note : Fun K "_note" "FineGrowth._note" sFineGrowth__note fFineGrowth__note fdFineGrowth__note) (GFineGrowth__note : FnOk P w K mg base CX0 8 fFineGrowth__note fdFineGrowth__note ["self", "found"] (spNote K T aC aD)) (bFineGrowth__note : Binds K fdFineGrowth__note ["self", "found"] []) (mmFineGrowth__note : Meth K aD "_note" fFineGrowth__note) {fFineGrowth__take_and_note : Addr} {fdFineGrowth__take_and_note : FuncData} (FFineGrowth__take_and_note : Fun K "_take_and_note" "FineGrowth._take_and_note" sFineGrowth__take_and_note fFineGrowth__take_and_note fdFineGrowth__take_and_note) (GFineGrowth__take_and_note : FnOk P w K mg base CX0 8 fFineGrowth__take_and_note fdFineGrowth__take_and_note ["self"] (spTan K T aC aD)) (bFineGrowth__take_and_note : Binds K fdFineGrowth__take_and_note ["self"] []) (mmFineGrowth__take_and_note : Meth K aD "_take_and_note" fFineGrowth__take_and_note) {fFineGrowth__awake_groups : Addr} {fdFineGrowth__awake_groups : FuncData} (FFineGrowth__awake_groups : Fun K "_awake_groups" "FineGrowth._awake_groups" sFineGrowth__awake_groups fFineGrowth__awake_groups fdFineGrowth__awake_groups) (GFineGrowth__awake_groups : FnOk P w K mg base CX0 8 fFineGrowth__awake_groups fdFineGrowth__awake_groups ["self"] (spAwake K T aC aD)) (bFineGrowth__awake_groups : Binds K fdFineGrowth__awake_groups ["self"] []) (mmFineGrowth__awake_groups : Meth K aD "_awake_groups" fFineGrowth__awake_groups) {fField_groups_now : Addr} {fdField_groups_now : FuncData} (FField_groups_now : Fun K "groups_now" "Field.groups_now" sField_groups_now fField_groups_now fdField_groups_now) (GField_groups_now : FnOk P w K mg base CX0 8 fField_groups_now fdField_groups_now ["self"] (spNow K T aC)) (bField_groups_now : Binds K fdField_groups_now ["self"] []) (mmField_groups_now : Meth K aC "groups_now" fField_groups_now) {fField_grow : Addr} {fdField_grow : FuncData} (FField_grow : Fun K "grow" "Field.grow" sField_grow fField_grow fdField_grow) (GField_grow : FnOk P w K mg base CX0 8 fField_grow fdField_grow ["self", "rising", "span"] (spGrow K T aC)) (bField_grow : Binds K fdField_grow ["self", "rising", "span"] []) (mmField_grow : Meth K aC "grow" fField_grow) {fFineGrowth__span_until_change : Addr} {fdFineGrowth__span_until_change : FuncData} (FFineGrowth__span_until_change : Fun K "_span_until_change" "FineGrowth._span_until_change" sFineGrowth__span_until_change fFineGrowth__span_until_change fdFineGrowth__span_until_change) (GFineGrowth__span_until_change : FnOk P w K mg base CX0 8 fFineGrowth__span_until_change fdFineGrowth__span_until_change ["self", "awake"] (spChange K T aC aD)) (bFineGrowth__span_until_change : Binds K fdFineGrowth__span_until_change ["self", "awake"] []) (mmFineGrowth__span_until_change : Meth K aD "_span_until_change" fFineGrowth__span_until_change) (fx : FTx K aC) (fy : FYx K aD) (gField : mg "Field" = some (.ref aC)) : FnOk P w K mg base CX0 9 f fd ["self", "net", "root", "fines"] (spFInit K T aC aD) := by
  refine F.ok scFineGrowth___init__ (fun vs H Q E h => ?_) (fun cdv A outer s H vs Q E hr h => ?_)
  · obtain ⟨p, dx, net, fv, n, root, fs, ws, rfl, hp, W, hnet, hfv, F, rn, wd, k⟩ := h
    rfl
  · obtain ⟨p, dx, net, fv, n, root, fs, ws, rfl, hp, W, hnet, hfv, F, rn, wd, k⟩ := h
    refine ⟨_, (pss_cons (ps_fld (pv 0) (pe_make MField GField___init__ hr (by rfl) gField bField___init__ .nil pass0 (pa_cons (pv 1) pa_nil)) rfl)
      (pss_cons (ps_fld (pv 0) (pe_lst pa_nil) rfl)
      (pss_cons (ps_fld (pv 0) (pv 2) rfl)
      (pss_cons (ps_fld (pv 0) (pv 3) rfl)
      (pss_cons (ps_expr (pe_meth (pv 0) fy.cl mmFineGrowth__note GFineGrowth__note hr bFineGrowth__note .nil pass0 (pa_cons (pe_meth0 (pe_fld (pv 0) rfl) fx.cl mmField_groups_now GField_groups_now hr bField_groups_now .nil pass0) pa_nil)))
      (pss_cons (ps_expr (pe_meth0 (pv 0) fy.cl mmFineGrowth__take_and_note GFineGrowth__take_and_note hr bFineGrowth__take_and_note .nil pass0))
      (pss_cons (ps_set (i := 4) scFineGrowth___init__.nd rfl (Or.inl rfl) (pe_meth0 (pv 0) fy.cl mmFineGrowth__awake_groups GFineGrowth__awake_groups hr bFineGrowth__awake_groups .nil pass0))
      (pss_one (ps_while PassesOwn.never (pt_truth (pv 4) (by intro _; rfl)) (pss_cons (ps_expr (pe_meth (pe_fld (pv 0) rfl) fx.cl mmField_grow GField_grow hr bField_grow .nil pass0 (pa_cons (pv 4) (pa_cons (pe_meth (pv 0) fy.cl mmFineGrowth__span_until_change GFineGrowth__span_until_change hr bFineGrowth__span_until_change .nil pass0 (pa_cons (pv 4) pa_nil)) pa_nil))))
      (pss_cons (ps_expr (pe_meth0 (pv 0) fy.cl mmFineGrowth__take_and_note GFineGrowth__take_and_note hr bFineGrowth__take_and_note .nil pass0))
      (pss_one (ps_set (i := 4) scFineGrowth___init__.nd rfl (Or.inl rfl) (pe_meth0 (pv 0) fy.cl mmFineGrowth__awake_groups GFineGrowth__awake_groups hr bFineGrowth__awake_groups .nil pass0)))))))))))))), ?_⟩
    have Wo := wf_ok W
    have n12 := W.n12
    have X : ∀ (H' : Hp) (o o' : HO), H' p = some o → (∀ ps, o ≠ .tbl ps) → Ext T (fun b => b = p) H' (upd H' p o') := fun H' o o' h nt => (Ext.refl T _ H').mut (.inr rfl) h nt
    refine ⟨_, rfl, fun x dx1 nx ndx nex => ?_⟩
    have nxd : (upd H dx1 (.own x)) x = none := by rw [upd_ne (by first | exact nex | exact fun z => nex z.symm)]; exact nx
    have e2 : Ext T noM H (upd (upd H dx1 (.own x)) x (.ins aC dx1 [])) := (Ext.new ndx).trans (Ext.new nxd)
    refine ⟨x, dx1, net, n, ws, rfl, upd_same, Rp.x e2 hnet, n12, fun f H2 fp F2 hfresh e3 => ?_⟩
    subst fp
    have hM : ∀ b, Fm f b → H b = none := fun b hb => by
      rcases hfresh b hb with z | z
      · rw [z]; exact nx
      · exact e2.fr b z
    have d2 : Ext T noM H H2 := e2.drop e3 fun b hb => by rw [hb]; exact nx
    have hp2 := d2.kp _ _ (fun z => z) hp (fun ps z => nomatch z)
    have hpF : ¬ Fm f p := fun z => by rw [hM p z] at hp; cases hp
    refine ⟨rfl, _, rfl, p, aD, dx, _, rfl, hp2, fy.cl, fy.n_field, by show 0 < 1000; decide, ?_⟩
    have x3 := X H2 _ (.ins aD dx (putF "field" (.ref f.p) [])) hp2 fun ps z => nomatch z
    have h3 : (upd H2 p (.ins aD dx (putF "field" (.ref f.p) []))) p = some (.ins aD dx (putF "field" (.ref f.p) [])) := upd_same
    have F3 := F2.ow (new := .ins aD dx (putF "field" (.ref f.p) [])) hpF hp2 (fun xs z => nomatch z) (fun o xs z => nomatch z)
    generalize (upd H2 p (.ins aD dx (putF "field" (.ref f.p) []))) = H3 at x3 h3 F3 ⊢
    refine ⟨by show 0 ≤ sizeLine; decide, fun ln hln => ?_⟩
    have x4 : Ext T noM H3 (upd H3 ln (.lst [])) := Ext.new hln
    have hl4 : (upd H3 ln (.lst [])) ln = some (.lst []) := upd_same
    have lnp : ln ≠ p := fun z => by rw [z, h3] at hln; cases hln
    have h4 : (upd H3 ln (.lst [])) p = some (.ins aD dx (putF "field" (.ref f.p) [])) := by rw [upd_ne (fun z => lnp z.symm)]; exact h3
    have lnF : ¬ Fm f ln := fun m => by obtain ⟨o, q, _⟩ := F3.not ln m; rw [hln] at q; cases q
    have F4 := F3.x x4
    have ln0 : H ln = none := d2.fr ln (x3.fr ln hln)
    generalize (upd H3 ln (.lst [])) = H4 at x4 hl4 h4 F4 ⊢
    refine ⟨_, rfl, p, aD, dx, _, rfl, h4, fy.cl, fy.n_notes, by show 1 < 1000; decide, ?_⟩
    have x5 := X H4 _ (.ins aD dx (putF "notes" (.ref ln) (putF "field" (.ref f.p) []))) h4 fun ps z => nomatch z
    have h5 : (upd H4 p (.ins aD dx (putF "notes" (.ref ln) (putF "field" (.ref f.p) [])))) p = some (.ins aD dx (putF "notes" (.ref ln) (putF "field" (.ref f.p) []))) := upd_same
    have F5 := F4.ow (new := .ins aD dx (putF "notes" (.ref ln) (putF "field" (.ref f.p) []))) hpF h4 (fun xs z => nomatch z) (fun o xs z => nomatch z)
    generalize (upd H4 p (.ins aD dx (putF "notes" (.ref ln) (putF "field" (.ref f.p) [])))) = H5 at x5 h5 F5 ⊢
    refine ⟨_, rfl, _, rfl, p, aD, dx, _, rfl, h5, fy.cl, fy.n_root, by show 2 < 1000; decide, ?_⟩
    have x6 := X H5 _ (.ins aD dx (putF "_root" (.int (root : Nat)) (putF "notes" (.ref ln) (putF "field" (.ref f.p) [])))) h5 fun ps z => nomatch z
    have h6 : (upd H5 p (.ins aD dx (putF "_root" (.int (root : Nat)) (putF "notes" (.ref ln) (putF "field" (.ref f.p) []))))) p = some (.ins aD dx (putF "_root" (.int (root : Nat)) (putF "notes" (.ref ln) (putF "field" (.ref f.p) [])))) := upd_same
    have F6 := F5.ow (new := .ins aD dx (putF "_root" (.int (root : Nat)) (putF "notes" (.ref ln) (putF "field" (.ref f.p) [])))) hpF h5 (fun xs z => nomatch z) (fun o xs z => nomatch z)
    generalize (upd H5 p (.ins aD dx (putF "_root" (.int (root : Nat)) (putF "notes" (.ref ln) (putF "field" (.ref f.p) []))))) = H6 at x6 h6 F6 ⊢
    refine ⟨_, rfl, _, rfl, p, aD, dx, _, rfl, h6, fy.cl, fy.n_fines, by show 3 < 1000; decide, ?_⟩
    have x7 := X H6 _ (.ins aD dx (gf ⟨p, f, ln, fv⟩ root)) h6 fun ps z => nomatch z
    have h7 : (upd H6 p (.ins aD dx (gf ⟨p, f, ln, fv⟩ root))) p = some (.ins aD dx (gf ⟨p, f, ln, fv⟩ root)) := upd_same
    have F7 := F6.ow (new := .ins aD dx (gf ⟨p, f, ln, fv⟩ root)) hpF h6 (fun xs z => nomatch z) (fun o xs z => nomatch z)
    have x47 := x5.trans (x6.trans x7)
    have x07 : Ext T (fun b => b = p) H (upd H6 p (.ins aD dx (gf ⟨p, f, ln, fv⟩ root))) := d2.weak.trans (x3.trans (x4.weak.trans x47))
    have hl7 := x47.lst (fun z => lnp z) hl4
    have hfv7 : Rp (upd H6 p (.ins aD dx (gf ⟨p, f, ln, fv⟩ root))) (finD fs) fv := Rp.ext x07 (fun b vs z q => by rw [show b = p from z, hp] at q; cases q) hfv
    have hnetW : Wd T (upd H6 p (.ins aD dx (gf ⟨p, f, ln, fv⟩ root))) := wd.ext x07
    show tSeq _ _ _ _ (upd H6 p (.ins aD dx (gf ⟨p, f, ln, fv⟩ root)))
    generalize (upd H6 p (.ins aD dx (gf ⟨p, f, ln, fv⟩ root))) = H7 at x07 h7 F7 hl7 hfv7 hnetW ⊢
    have FG7 : FgAt K aC aD H7 ⟨p, f, ln, fv⟩ n root fs ws start [] := ⟨⟨dx, h7⟩, F7, ⟨[], hl7, TupsL.nil⟩, hfv7, hpF, lnF⟩
    have hgm0 : ∀ b, Gm ⟨p, f, ln, fv⟩ b → H b = none := fun b m => by
      rcases m with m | m
      · exact hM b m
      · rw [show b = ln from m]; exact ln0
    generalize hg : (⟨p, f, ln, fv⟩ : FGd) = g at *
    have gp : g.p = p := by rw [← hg]
    have gfp : g.f = f := by rw [← hg]
    have J0 := FJ.start (n := n) (root := root) (fs := fs) (ws := ws) Wo
    have O0 := J0.ok W F rn
    have rl0 := reps_len start.h n
    obtain ⟨dy, tv, hfo, _⟩ := F7.ob
    have F7' := F7
    rw [← gfp] at hfo F7'
    refine ⟨_, rfl, p, dx, _, rfl, h7, by rfl, _, rfl, p, aD, dx, _, _, rfl, h7, fy.cl, fy.n_field, gf_field _ _, g.f.p, dy, _, rfl, hfo, by rfl, g.f, n, 0, ws, start, rfl, F7', O0.m.g, n12, hnetW, fun gv H8 RV e8 => ?_⟩
    have F8 := FG7.x e8
    obtain ⟨ra0, rvs0, rfl, hra0, _, _⟩ := id RV.at_
    refine ⟨g, n, root, 0, fs, ws, start, [], (reps start.h n).map (cls start.h n), .ref ra0, by rw [gp]; rfl, F8, O0, RV.grps n12, fun l hl hr => ?_, fun a ha => ?_, by rw [List.length_map]; omega, by show 0 ≤ 900; decide, hnetW.ext e8, fun H9 F9 e9 => ?_⟩
    · obtain ⟨r, hr1, rfl⟩ := List.mem_map.mp hl
      obtain ⟨rn1, rr1⟩ := mem_reps'.mp hr1
      exact O0.m.r0 r rn1 rr1 hr
    · obtain rfl := V.ref.inj ha
      exact F8.notup hra0
    have e79 := e8.gm.trans e9
    have wd9 := hnetW.ext e79
    have n0l := noteL_len root fs start ((reps start.h n).map (cls start.h n)) []
    rw [List.length_map, List.length_nil] at n0l
    obtain ⟨dx9, hob9⟩ := F9.ob
    have hob9' := hob9
    rw [gp] at hob9'
    refine ⟨_, rfl, p, dx9, _, rfl, hob9', by rfl, g, n, root, 0, fs, ws, start, _, by rw [gp]; rfl, F9, O0, J0.tk, by omega, wd9, fun H10 F10 e10 => ?_⟩
    have eT : takeAll ws n start = start := takeAll_stop J0.i.f n
    have eB : born ws n n start = [] := by rw [← bornAll_eq, born_stop J0.i.f]
    rw [eT, eB] at F10
    have F10 : FgAt K aC aD H10 g n root fs ws start (noteL root fs start (noteL root fs start [] ((reps start.h n).map (cls start.h n))) ((reps start.h n).map (cls start.h n))) := F10
    rw [noteL_idem root fs start ((reps start.h n).map (cls start.h n)) (noteL root fs start [] ((reps start.h n).map (cls start.h n))) fun c hc h1 h2 => noteL_in root fs start _ [] c hc h1 h2] at F10
    have e710 := e79.trans e10
    have wd10 := hnetW.ext e710
    obtain ⟨dx10, hob10⟩ := F10.ob
    rw [gp] at hob10
    refine ⟨_, rfl, p, dx10, _, rfl, hob10, by rfl, g, n, root, 0, fs, ws, start, _, by rw [gp]; rfl, F10, O0, wd10, fun rv0 H11 RV11 e11 => ?_⟩
    refine ⟨fun m σ' H' => ∃ t b S nt rv, σ' = [some (.ref p), some net, some (.int (root : Nat)), some fv, some rv] ∧ FJ n root fs ws t b m S nt ∧ FgAt K aC aD H' g n root fs ws S nt ∧ RisV K H' n S.h (awk n root fs S) rv ∧ Ext T (Gm g) H7 H' ∧ groF n root fs ws m (S, nt) = allF n root fs ws,
      ⟨2 * n, 0, 0, start, _, rv0, rfl, J0, F10.x e11, RV11, e710.trans e11.gm, rfl⟩, ?_⟩
    rintro m σ' H12 ⟨t, b, S, nt, rv, rfl, J, FG, R, e12, heq⟩
    obtain ⟨ra, rvs, rfl, hra, hrl, hrx⟩ := id R.at_
    have wd12 := hnetW.ext e12
    refine ⟨_, rfl, !rvs.isEmpty, .inr (.inl ⟨rvs, SqT.of hra, rfl⟩), ?_⟩
    refine ite2 (fun q => ?_) (fun q => ?_)
    · have hne : awk n root fs S ≠ [] := fun z => by
        rw [z] at hrl
        rw [List.eq_nil_of_length_eq_zero hrl] at q; cases q
      have al := awk_len n root fs S
      have ap : 0 < (awk n root fs S).length := List.length_pos_iff.mpr hne
      obtain ⟨m', rfl⟩ : ∃ m', m = m' + 1 := by
        have := J.mm
        exact ⟨m - 1, by omega⟩
      have O := J.ok W F rn
      obtain ⟨t12, _⟩ := J.i.turn Wo F.bd hne
      obtain ⟨t', ht', FG2, _, _, s0, s1⟩ := J.i.m.grow F.bd n12 t12 J.i.f hne
      obtain ⟨t3, J2⟩ := J.turn Wo F.bd hne
      obtain ⟨w1, w2⟩ := wid_grow_len (n := n) (S := S) (R := awk n root fs S) (x := spanF n root fs ws S) J.nd
      have jb := J.bb
      have jw := J.wl
      have jn := J.nl
      have O2 : FOk n root t' fs ws (grow n S (awk n root fs S) (spanF n root fs ws S)) := ⟨W, F, rn, FG2.mono (by omega), by rcases ht' with h | ⟨h, _⟩ <;> omega, w1, by omega⟩
      refine ⟨fun σ' H' => ∃ t b S nt rv, σ' = [some (.ref p), some net, some (.int (root : Nat)), some fv, some rv] ∧ FJ n root fs ws t b m' S nt ∧ FgAt K aC aD H' g n root fs ws S nt ∧ RisV K H' n S.h (awk n root fs S) rv ∧ Ext T (Gm g) H7 H' ∧ groF n root fs ws m' (S, nt) = allF n root fs ws, fun σ' H' z => ⟨m', Nat.lt_succ_self _, z⟩, ?_⟩
      obtain ⟨dxa, hoba⟩ := FG.ob
      rw [gp] at hoba
      obtain ⟨dya, tva, hfoa, _⟩ := FG.fd.ob
      refine ⟨_, rfl, p, aD, dxa, _, _, rfl, hoba, fy.cl, fy.n_field, gf_field _ _, g.f.p, dya, _, rfl, hfoa, by rfl, _, rfl, _, rfl, p, dxa, _, rfl, hoba, by rfl, _, rfl, g, n, root, t, fs, ws, S, nt, .ref ra, by rw [gp]; rfl, FG, O, t12, J.i.f, hne, R, wd12, fun v H13 hv e13 => ?_⟩
      have FG13 := FG.x e13
      refine ⟨g.f, n, t, ws, S, awk n root fs S, .ref ra, v, spanF n root fs ws S, rfl, FG13.fd, O.m.g, n12, t12, R.x e13, awk_nodup _ _ _ _, by omega, hv, s0, by omega, J.nd, by omega, fun H14 F14 e14 => ?_⟩
      have FG14 := FG13.fld e14 F14
      have e714 := e12.trans (e13.gm.trans e14.fm)
      obtain ⟨dxb, hobb⟩ := FG14.ob
      rw [gp] at hobb
      refine ⟨_, rfl, p, dxb, _, rfl, hobb, by rfl, g, n, root, t', fs, ws, _, nt, by rw [gp]; rfl, FG14, O2, J.tk, by omega, hnetW.ext e714, fun H15 F15 e15 => ?_⟩
      have F15 : FgAt K aC aD H15 g n root fs ws (turnF n root fs ws (S, nt)).1 (turnF n root fs ws (S, nt)).2 := F15
      have e715 := e714.trans e15
      obtain ⟨dxc, hobc⟩ := F15.ob
      rw [gp] at hobc
      refine ⟨_, rfl, p, dxc, _, rfl, hobc, by rfl, g, n, root, t3, fs, ws, _, _, by rw [gp]; rfl, F15, J2.ok W F rn, hnetW.ext e715, fun rv H16 RV16 e16 => ?_⟩
      refine ⟨t3, b + 12, _, _, rv, rfl, J2, F15.x e16, RV16, e715.trans e16.gm, ?_⟩
      rw [← heq]
      show _ = (if awk n root fs S = [] then (S, nt) else groF n root fs ws m' (turnF n root fs ws (S, nt)))
      rw [if_neg hne]
    · have hno : awk n root fs S = [] := by
        have hz : rvs = [] := by
          cases rvs with
          | nil => rfl
          | cons a b => exact absurd rfl q
        rw [hz] at hrl
        exact List.eq_nil_of_length_eq_zero hrl.symm
      rw [groF_stop hno] at heq
      exact k g H12 gp (by rw [← heq]; exact FG) (x07.dropM e12 hgm0) hgm0
end
end Mw

set_option Elab.async false
set_option linter.all false
set_option maxRecDepth 100000
set_option maxHeartbeats 4000000
namespace Mw
open PySem PySem.Spec PyProof.Rows L2 GE
/-! ### the dict of groups while it is filled -/
def kvsOf (l : List Nat) (A : Nat → Addr) : List (Key × V) := l.map fun (r : Nat) => ((Sum.inl (r : Int) : Key), V.ref (A r))
theorem val_in {A : Nat → Addr} {r : Nat} : ∀ {l : List Nat}, r ∈ l → valV (kvsOf l A) (.inl (r : Int)) = some (.ref (A r))
  | x :: l, h => by
    show valV (((Sum.inl (x : Int) : Key), V.ref (A x)) :: kvsOf l A) _ = _
    by_cases e : x = r
    · subst e; exact valV_pos rfl
    · rw [valV_neg (fun z => e (by have := Sum.inl.inj z; omega))]
      rcases List.mem_cons.mp h with h | h
      · exact absurd h.symm e
      · exact val_in h
theorem val_out {A : Nat → Addr} {r : Nat} : ∀ {l : List Nat}, r ∉ l → valV (kvsOf l A) (.inl (r : Int)) = none
  | [], _ => rfl
  | x :: l, h => by
    show valV (((Sum.inl (x : Int) : Key), V.ref (A x)) :: kvsOf l A) _ = _
    rw [valV_neg (fun z => h (by have := Sum.inl.inj z; rw [show r = x by omega]; exact List.mem_cons_self))]
    exact val_out fun z => h (List.mem_cons_of_mem _ z)
theorem put_out {A : Nat → Addr} {r : Nat} {l : List Nat} {v : V} (h : r ∉ l) : putK (kvsOf l A) (.inl (r : Int)) v = kvsOf l A ++ [(.inl (r : Int), v)] := by
  unfold putK; rw [valV_any, val_out h]; rfl
theorem mem_reps {h : Nat → Nat} {n r : Nat} : r ∈ reps h n ↔ r < n ∧ h r = r := by
  unfold reps; rw [List.mem_filter, List.mem_range]; simp
theorem cls_succ (h : Nat → Nat) (i r : Nat) : cls h (i + 1) r = cls h i r ++ if h i = h r then [i] else [] := by
  have := filter_range_succ (fun x => h x == h r) i
  unfold cls; rw [this]; by_cases e : h i = h r <;> simp [e]
structure GInv (T : List Addr) (h : Nat → Nat) (H0 H' : Hp) (d l : Addr) (n i : Nat) (A : Nat → Addr) : Prop where
  dk : H' d = some (.dK (kvsOf (reps h i) A))
  al : ∀ r ∈ reps h i, H' (A r) = some (.lst (natsV (cls h i r)))
  fr : ∀ r ∈ reps h i, H0 (A r) = none
  inj : ∀ r ∈ reps h i, ∀ q ∈ reps h i, A r = A q → r = q
  nl : ∀ r ∈ reps h i, A r ≠ l
  hl : H' l = some (.lst (hV n h))
  hd : H0 d = none
  e : Ext T noM H0 H'
section
variable {T : List Addr} {h : Nat → Nat} {H0 H' : Hp} {d l : Addr} {n i : Nat} {A : Nat → Addr}
theorem GInv.x {H1 : Hp} (I : GInv T h H0 H' d l n i A) (e : Ext T noM H' H1) : GInv T h H0 H1 d l n i A :=
  ⟨e.kp _ _ (fun z => z) I.dk (fun ps z => nomatch z), fun r hr => e.lst (fun z => z) (I.al r hr), I.fr, I.inj, I.nl, e.lst (fun z => z) I.hl, I.hd, I.e.trans e⟩
/-- a place whose group is there -/
theorem GInv.old (I : GInv T h H0 H' d l n i A) (hi : h i ∈ reps h i) : GInv T h H0 (upd H' (A (h i)) (.lst (natsV (cls h i (h i)) ++ [V.int (i : Nat)]))) d l n (i + 1) A := by
  have hne : h i ≠ i := fun z => by have := (mem_reps.mp hi).1; omega
  have hre : reps h (i + 1) = reps h i := by rw [reps_succ, if_neg hne, List.append_nil]
  have hdA : d ≠ A (h i) := fun z => by have h1 := I.dk; rw [z, I.al _ hi] at h1; cases h1
  refine ⟨by rw [upd_ne hdA, hre]; exact I.dk, fun r hr => ?_, by rw [hre]; exact I.fr, by rw [hre]; exact I.inj, by rw [hre]; exact I.nl, by rw [upd_ne (fun z => I.nl _ hi z.symm)]; exact I.hl, I.hd, I.e.mut (.inl (I.fr _ hi)) (I.al _ hi) ltbl⟩
  rw [hre] at hr
  have hrr := (mem_reps.mp hr).2
  have hhh := (mem_reps.mp hi).2
  rw [cls_succ]
  by_cases e : r = h i
  · subst e
    rw [upd_same, if_pos hhh.symm]
    unfold natsV; rw [List.map_append]; rfl
  · rw [upd_ne (fun z => e (I.inj _ hr _ hi z)), if_neg (fun z => e (by rw [← hrr]; exact z.symm)), List.append_nil]
    exact I.al r hr
/-- a place whose group is new -/
theorem GInv.new {p : Addr} (I : GInv T h H0 H' d l n i A) (hi : h i = i) (hp : H' p = none) (hle : ∀ x, x < i → h x ≤ x) :
    GInv T h H0 (upd (upd (upd H' p (.lst [])) d (.dK (kvsOf (reps h i) A ++ [(.inl (i : Int), .ref p)]))) p (.lst [V.int (i : Nat)])) d l n (i + 1) fun r => if r = i then p else A r := by
  have hre : reps h (i + 1) = reps h i ++ [i] := by rw [reps_succ, if_pos hi]
  have hlt : ∀ r ∈ reps h i, r < i := fun r hr => (mem_reps.mp hr).1
  have hne : ∀ r ∈ reps h i, r ≠ i := fun r hr => Nat.ne_of_lt (hlt r hr)
  have hdp : d ≠ p := fun z => by have h1 := I.dk; rw [z, hp] at h1; cases h1
  have hlp : l ≠ p := fun z => by have h1 := I.hl; rw [z, hp] at h1; cases h1
  have hld : l ≠ d := fun z => by have h1 := I.hl; rw [z, I.dk] at h1; cases h1
  have hAd : ∀ r ∈ reps h i, A r ≠ d := fun r hr z => by have h1 := I.al r hr; rw [z, I.dk] at h1; cases h1
  have hAp : ∀ r ∈ reps h i, A r ≠ p := fun r hr z => by have h1 := I.al r hr; rw [z, hp] at h1; cases h1
  have h0p : H0 p = none := I.e.fr p hp
  have ea : Ext T noM H0 (upd H' p (.lst [])) := I.e.trans (Ext.new hp)
  have eb := ea.mut (p := d) (o := .dK (kvsOf (reps h i) A ++ [(.inl (i : Int), .ref p)])) (.inl I.hd) (by rw [upd_ne hdp]; exact I.dk) fun ps z => by cases z
  have ec := eb.mut (p := p) (o := .lst [V.int (i : Nat)]) (.inl h0p) (by rw [upd_ne (fun z => hdp z.symm), upd_same]) ltbl
  refine ⟨?_, fun r hr => ?_, fun r hr => ?_, fun r hr q hq => ?_, fun r hr => ?_, ?_, I.hd, ec⟩
  · rw [upd_ne hdp, upd_same, hre]
    unfold kvsOf
    rw [List.map_append]
    congr 3
    · exact List.map_congr_left fun r hr => by dsimp only; rw [if_neg (hne r hr)]
    · show _ = [((Sum.inl (i : Int) : Key), V.ref (if i = i then p else A i))]
      rw [if_pos rfl]
  · rw [hre] at hr
    rcases List.mem_append.mp hr with hr | hr
    · rw [if_neg (hne r hr), upd_ne (hAp r hr), upd_ne (hAd r hr), upd_ne (hAp r hr), I.al r hr, cls_succ, if_neg (fun z => hne r hr (by rw [← (mem_reps.mp hr).2, ← z, hi])), List.append_nil]
    · obtain rfl := List.mem_singleton.mp hr
      rw [if_pos rfl, upd_same, cls_succ, if_pos rfl]
      have e : cls h r r = [] := List.filter_eq_nil_iff.mpr fun x hx => by
        have hx' := List.mem_range.mp hx
        have := hle x hx'
        simp only [beq_iff_eq]; omega
      rw [e]; rfl
  · rw [hre] at hr
    rcases List.mem_append.mp hr with hr | hr
    · rw [if_neg (hne r hr)]; exact I.fr r hr
    · rw [if_pos (List.mem_singleton.mp hr)]; exact h0p
  · rw [hre] at hr hq
    rcases List.mem_append.mp hr with hr | hr <;> rcases List.mem_append.mp hq with hq | hq
    · rw [if_neg (hne r hr), if_neg (hne q hq)]; exact I.inj r hr q hq
    · rw [if_neg (hne r hr), if_pos (List.mem_singleton.mp hq)]; exact fun z => absurd z (hAp r hr)
    · rw [if_neg (hne q hq), if_pos (List.mem_singleton.mp hr)]; exact fun z => absurd z.symm (hAp q hq)
    · exact fun _ => by rw [List.mem_singleton.mp hr, List.mem_singleton.mp hq]
  · rw [hre] at hr
    rcases List.mem_append.mp hr with hr | hr
    · rw [if_neg (hne r hr)]; exact I.nl r hr
    · rw [if_pos (List.mem_singleton.mp hr)]; exact fun z => hlp z.symm
  · rw [upd_ne hlp, upd_ne hld, upd_ne hlp]; exact I.hl
end
section
variable {P : Program} {w : World} {K : PySem.W.Frag} {mg : Str → Option Value} {base : Heap} {T : List Addr}
theorem ok_groups {f : Addr} {fd : FuncData} {c PT : Addr} (F : GE.FunC K "groups" "groups" sgroups f fd c) (TB : GxR.TabB base mg c PT) (hPT : PT ∈ T) (m_enumerate : mg "enumerate" = none) (m_tuple : mg "tuple" = none) {f_homes : Addr} {fd_homes : FuncData} (F_homes : Fun K "_homes" "_homes" s_homes f_homes fd_homes) (G_homes : FnOk P w K mg base CX0 2 f_homes fd_homes ["net", "choice"] (spHomes T)) (b_homes : Binds K fd_homes ["net", "choice"] []) (g_homes : mg "_homes" = some (.ref f_homes)) : FnOk P w K mg base CX0 3 f fd ["net", "choice"] (spGroups T) := by
  refine F.ok scgroups (fun vs H Q E h => ?_) (fun A outer s H vs Q E hr h => ?_)
  · obtain ⟨net, ch, n, ws, cs, rfl, t, wd, k⟩ := h
    rfl
  · obtain ⟨net, ch, n, ws, cs, rfl, t, wd, k⟩ := h
    refine ⟨_, (pss_cons (ps_set (i := 2) scgroups.nd rfl (Or.inl rfl) pe_dnewK)
      (pss_cons (ps_for PassesOwn.never rfl (pi_enum (by rfl) m_enumerate (pa_cons (pe_call G_homes hr (by rfl) g_homes F_homes.kp b_homes .nil pass0 (pa_cons (pv 0) (pa_cons (pv 1) pa_nil))) pa_nil)) (pg_tup (by rfl) (pgs_cons (pg_name (i := 3) scgroups.nd rfl (Or.inl rfl)) (pgs_cons (pg_name (i := 4) scgroups.nd rfl (Or.inl rfl)) pgs_nil))) (pss_one (ps_expr (pe_bm PySem.F.plainAttrs_list PySem.F.slot_list_append PySem.F.type_list_append mt_append (pe_dsetd (pv 2) (pv 4) (pe_lst pa_nil) ⟨rfl, rfl, rfl, rfl⟩) (pa_cons (pv 3) pa_nil)))))
      (pss_one (ps_ret (pe_lock (GE.pe_tupG (own := [("group", 5)]) (g := (gName 5)) (k := 0) hr (by rfl) m_tuple scgroups.nd TB rfl (pi_values (pv 2)) (GE.gblk_by (N := ["net", "choice", "found", "place", "home", "group"]) (sc := defScope sgroups) (by decide +kernel)) (fun _ _ _ _ _ _ _ _ => (pg_name (i := 5) scgroups.nd rfl (Or.inl rfl))) (fun _ _ _ _ _ _ _ _ hr' => pts_nil) (fun _ _ _ _ _ _ _ _ hr' => (pe_callTy (GE.call_tuple_ofK (K := K)) (by rfl) m_tuple (by decide +kernel) (pa_cons (pv 5) pa_nil))))))))), ?_⟩
    have HM := hom_ok t.W cs t.C.lt
    refine fun d hd => ?_
    have e1 : Ext T noM H (upd H d (.dK [])) := Ext.new hd
    have hd1 : (upd H d (.dK [])) d = some (.dK []) := upd_same
    have n12 := t.W.n12
    refine ⟨_, rfl, _, rfl, net, ch, n, ws, cs, rfl, t.x e1, fun l H2 hl hL e2 => ?_⟩
    have I0 : GInv T (hom ws cs) H H2 d l n 0 fun _ => 0 := ⟨e2.kp _ _ (fun z => z) hd1 (fun ps z => nomatch z), fun r hr => (by cases hr), fun r hr => (by cases hr), fun r hr => (by cases hr), fun r hr => (by cases hr), hL, hd, e1.trans e2⟩
    refine ⟨l, _, rfl, SqL.of hL, for_it walk_enum (fun i σ' H' => ∃ A y3 y4, σ' = [some net, some ch, some (.ref d), y3, y4, none] ∧ GInv T (hom ws cs) H H' d l n i A) ⟨_, none, none, rfl, I0⟩ (fun i σ' H' _ ⟨_, _, _, _, I⟩ => SqL.of I.hl) ?_ ?_⟩
    · rintro i x σ' H3 H4 hi ⟨Ad, y3, y4, rfl, I⟩ ⟨Tp, x1, x2, rfl, hT, rfl, h1, h2⟩
      rw [hV_len] at hi
      obtain rfl := Option.some.inj h1
      have h2 : (hV n (hom ws cs))[i]? = some x2 := h2
      rw [hV_get hi] at h2
      obtain rfl := Option.some.inj h2
      refine ⟨Tp, _, rfl, SqT.of upd_same, rfl, _, _, rfl, _, _, rfl, rfl, ?_⟩
      have I4 := I.x (Ext.new (o := .tup [.int (i : Nat), .int (hom ws cs i : Nat)]) hT)
      have hlen := reps_len (hom ws cs) i
      have hkl : (kvsOf (reps (hom ws cs) i) Ad).length < sizeLine := by
        unfold kvsOf; rw [List.length_map]; exact small1000 (by omega)
      refine ⟨_, rfl, d, rfl, .inl ⟨_, .inl I4.dk⟩, _, rfl, ?_⟩
      refine ⟨by show 0 ≤ sizeLine; decide, fun p hp => ?_⟩
      have I5 := I4.x (Ext.new (o := .lst []) hp)
      refine ⟨_, .inl (hom ws cs i : Nat), I5.dk, rfl, hkl, ?_, ?_⟩
      · intro v hv
        have hin : hom ws cs i ∈ reps (hom ws cs) i := Classical.byContradiction fun z => by rw [val_out z] at hv; cases hv
        rw [val_in hin] at hv
        obtain rfl := Option.some.inj hv
        have ha := I5.al _ hin
        refine ⟨.inl ⟨rfl, _, SqL.of ha⟩, _, rfl, _, _, _, rfl, rfl, ha, ?_, Ad, _, _, rfl, I5.old hin⟩
        unfold natsV; rw [List.length_map]
        have := cls_len (hom ws cs) i (hom ws cs i)
        exact small1000 (by omega)
      · intro hv
        have hle := HM.le i hi
        have hii : hom ws cs i = i := by
          rcases Nat.lt_or_eq_of_le hle with h | h
          · have hin : hom ws cs i ∈ reps (hom ws cs) i := mem_reps.mpr ⟨h, HM.idem i hi⟩
            rw [val_in hin] at hv; cases hv
          · exact h
        have hnin : hom ws cs i ∉ reps (hom ws cs) i := fun z => by have := (mem_reps.mp z).1; omega
        have hn := I4.new hii hp fun x hx => HM.le x (by omega)
        rw [put_out hnin]
        have hdp : d ≠ p := fun z => by have h1 := I4.dk; rw [z, hp] at h1; cases h1
        have hpp : upd (upd (upd H3 Tp (.tup [.int (i : Nat), .int (hom ws cs i : Nat)])) p (.lst [])) d (.dK (kvsOf (reps (hom ws cs) i) Ad ++ [(.inl (hom ws cs i : Nat), .ref p)])) p = some (.lst []) := by rw [upd_ne (fun z => hdp z.symm), upd_same]
        refine ⟨.inl ⟨rfl, _, SqL.of hpp⟩, _, rfl, _, _, _, rfl, rfl, hpp, by decide, (fun r => if r = i then p else Ad r), _, _, rfl, ?_⟩
        rw [hii]
        rw [hii] at hn
        exact hn
    · rintro σ' H3 ⟨Ad, y3, y4, rfl, I⟩
      rw [hV_len] at I
      have hnk : ∀ ps, HO.dK (kvsOf (reps (hom ws cs) n) Ad) ≠ .tbl ps := fun ps z => nomatch z
      have hlen := reps_len (hom ws cs) n
      have hkl : (kvsOf (reps (hom ws cs) n) Ad).length = (reps (hom ws cs) n).length := by unfold kvsOf; rw [List.length_map]
      refine ⟨d, _, I.dk, True.intro, fun od => ?_⟩
      have ef : Ext T noM H (upd H3 d (.frz od (.dK (kvsOf (reps (hom ws cs) n) Ad)))) := I.e.mut (.inl hd) I.dk hnk
      have hal : ∀ r ∈ reps (hom ws cs) n, (upd H3 d (.frz od (.dK (kvsOf (reps (hom ws cs) n) Ad)))) (Ad r) = some (.lst (natsV (cls (hom ws cs) n r))) := fun r hr => by
        rw [upd_ne (fun z => by have h1 := I.al r hr; rw [z, I.dk] at h1; cases h1)]; exact I.al r hr
      have hfz : (upd H3 d (.frz od (.dK (kvsOf (reps (hom ws cs) n) Ad)))) d = some (.frz od (.dK (kvsOf (reps (hom ws cs) n) Ad))) := upd_same
      generalize (upd H3 d (.frz od (.dK (kvsOf (reps (hom ws cs) n) Ad)))) = Hf at ef hal hfz ⊢
      have wf := wd.ext ef
      refine ⟨_, rfl, d, od, _, rfl, hfz, wf PT hPT, fun H4 tb => ?_⟩
      have et : Ext T noM Hf H4 := Ext.tab (wf PT hPT) tb
      refine turn_valsI (fun i ys H' => RpL H' (((reps (hom ws cs) n).take i).map fun r => D.t ((cls (hom ws cs) n r).map fun (x : Nat) => .i (x : Int))) ys ∧ Ext T noM Hf H') ⟨rpl_nil, et⟩ (fun i ys H' _ p => p.2.kp _ _ (fun z => z) hfz (fun ps z => nomatch z)) ?_ ?_
      · rintro ys H' ⟨r, e⟩ q hq
        rw [hkl, List.take_length] at r
        have hfz' := e.kp _ _ (fun z => z) hfz (fun ps z => nomatch z)
        have hdq := ne_of_none hfz' hq
        have hd2 : (upd H' q (.tup ys)) d = some (.frz od (.dK (kvsOf (reps (hom ws cs) n) Ad))) := by rw [upd_ne hdq]; exact hfz'
        refine ⟨hd2, k _ _ ?_ (((ef.trans e).trans (Ext.new hq)).mut (.inl hd) hd2 fun ps z => nomatch z)⟩
        have rr : Rp (upd H' q (.tup ys)) (grpD (hom ws cs) n) (.ref q) := by
          refine rp_t upd_same ?_
          unfold grps
          rw [List.map_map]
          exact RpL.x (Ext.new (T := T) hq) r
        exact Rp.ext (T := T) (M := fun b => b = d) ((Ext.refl T _ _).mut (.inr rfl) hd2 fun ps z => nomatch z) (fun b vs hb z => by rw [hb, hd2] at z; cases z) rr
      · rintro i kk x ys H' hx ⟨r, e⟩ N hN
        obtain ⟨q, hq, rfl⟩ : ∃ q, (reps (hom ws cs) n)[i]? = some q ∧ x = V.ref (Ad q) := by
          unfold kvsOf at hx
          rw [List.getElem?_map] at hx
          cases e : (reps (hom ws cs) n)[i]? with
          | none => rw [e] at hx; cases hx
          | some q => rw [e] at hx; exact ⟨q, rfl, (congrArg Prod.snd (Option.some.inj hx)).symm⟩
        have ha := e.lst (fun z => z) (hal q (List.mem_of_getElem? hq))
        refine ⟨rfl, tYesI ?_⟩
        refine ⟨_, rfl, _, _, rfl, .inl ⟨SqL.of ha, fun t ht => ⟨?_, hN _ _ ⟨?_, e.trans (Ext.new ht)⟩⟩⟩⟩
        · rw [r.len, List.length_map, List.length_take]; exact small1000 (by omega)
        · rw [take_succ' hq, List.map_append]
          refine RpL.snoc (RpL.x (Ext.new (T := T) ht) r) (rp_t upd_same ?_)
          have e2 := rpl_ints (H := upd H' t (.tup (natsV (cls (hom ws cs) n q)))) ((cls (hom ws cs) n q).map fun x : Nat => (x : Int))
          rw [List.map_map, List.map_map] at e2
          exact e2
end
end Mw

set_option Elab.async false
set_option linter.all false
set_option maxRecDepth 100000
set_option maxHeartbeats 4000000
namespace Mw
open PySem PySem.Spec PyProof.Rows L2 GE
/-- the places out of the group of r -/
def lft (h : Nat → Nat) (n r : Nat) : List Nat := (List.range n).filter fun x => decide (x ∉ cls h n r)
theorem lft_lt {h : Nat → Nat} {n r x : Nat} (hx : x ∈ lft h n r) : x < n := List.mem_range.mp (List.mem_filter.mp hx).1
theorem lft_len (h : Nat → Nat) (n r : Nat) : (lft h n r).length ≤ n := by
  have := List.length_filter_le (fun x => decide (x ∉ cls h n r)) (List.range n)
  rw [List.length_range] at this; exact this
theorem lft_take {h : Nat → Nat} {n r i : Nat} : ((List.range (i + 1)).filter fun x => decide (x ∉ cls h n r)) = ((List.range i).filter fun x => decide (x ∉ cls h n r)) ++ if i ∉ cls h n r then [i] else [] := by
  have := filter_range_succ (fun x => decide (x ∉ cls h n r)) i
  rw [this]
  by_cases e : i ∉ cls h n r
  · rw [if_pos (decide_eq_true e), if_pos e]
  · rw [if_neg (by rw [decide_eq_false e]; exact Bool.false_ne_true), if_neg e]
def spGroupOf (T : List Addr) : Sp := fun vs H Q _ => ∃ (r n : Nat) (h : Nat → Nat) (es : List (Nat × Nat)) (v : V), vs = [.int (r : Nat), v] ∧ Rp H (grpD h n) v ∧ Hom n es h ∧ r < n ∧ n ≤ 12 ∧ ∀ a H', H' a = some (.tup (natsV (cls h n r))) → Ext T noM H H' → Q (.ref a) H'
def spLeft (T : List Addr) : Sp := fun vs H Q _ => ∃ (net ch : V) (r n : Nat) (ws : List Wy) (cs : List Nat), vs = [net, .int (r : Nat), ch] ∧ Task H n ws cs net ch ∧ r < n ∧ Wd T H ∧ ∀ a H', H' a = some (.tup (natsV (lft (hom ws cs) n r))) → Ext T noM H H' → Q (.ref a) H'
def spFTask (T : List Addr) : Sp := fun vs H Q _ => ∃ (p s : Addr) (most ways : Int), vs = [.ref p, .int most, .int ways] ∧ PoolAt H p s ∧ 1 ≤ most ∧ most ≤ 12 ∧ 0 ≤ ways ∧ ways ≤ 24 ∧
  ∀ t net r fv n ws fs H', Wf n ws → r < n → FnOkF n fs → Rp H' (netD n ws) net → Rp H' (finD fs) fv → H' t = some (.tup [net, .int ((r : Nat) : Int), fv]) → PoolAt H' p s → Ext T (atP p) H H' → Q (.ref t) H'

/-! ### what is cut off -/
def ends (ws : Wl) (g : List Nat) (c : Nat) : Nat := (if (way ws c).1 ∈ g then 1 else 0) + (if (way ws c).2.1 ∈ g then 1 else 0)
def leads (ws : Wl) (kept g : List Nat) : List Nat := kept.filter fun c => decide (ends ws g c = 1)
def fstCut (ws : Wl) (notes : Keys) (kept : List Nat) : Option (List Nat) := notes.find? fun g => decide ((leads ws kept g).length = 1)
def cutS (ws : Wl) (kept g : List Nat) : List Nat := kept.filter fun c => decide (ends ws g c = 0)
def cutOff (ws : Wl) (notes : Keys) : Nat → List Nat → List Nat
  | 0, kept => kept
  | j + 1, kept => match fstCut ws notes kept with
    | none => kept
    | some g => cutOff ws notes j (cutS ws kept g)
theorem cutOff_stop {ws : Wl} {notes : Keys} {kept : List Nat} (h : fstCut ws notes kept = none) : ∀ j, cutOff ws notes j kept = kept
  | 0 => rfl
  | j + 1 => by show (match fstCut ws notes kept with | none => kept | some g => cutOff ws notes j (cutS ws kept g)) = kept; rw [h]
theorem cutOff_go {ws : Wl} {notes : Keys} {kept g : List Nat} (h : fstCut ws notes kept = some g) (j : Nat) : cutOff ws notes (j + 1) kept = cutOff ws notes j (cutS ws kept g) := by
  show (match fstCut ws notes kept with | none => kept | some g => cutOff ws notes j (cutS ws kept g)) = _; rw [h]
theorem cutS_less {ws : Wl} {notes : Keys} {kept g : List Nat} (h : fstCut ws notes kept = some g) : (cutS ws kept g).length < kept.length := by
  have h1 : (leads ws kept g).length = 1 := of_decide_eq_true (List.find?_some (p := fun g => decide ((leads ws kept g).length = 1)) (l := notes) h)
  have h2 := len_filter2 (fun c => decide (ends ws g c = 0)) kept
  have h3 : (leads ws kept g).length ≤ (kept.filter fun c => !decide (ends ws g c = 0)).length := by
    unfold leads
    rw [filter_sum, filter_sum]
    refine sum_le_sum fun c _ => ?_
    by_cases q : ends ws g c = 1
    · have : ¬ ends ws g c = 0 := by omega
      rw [decide_eq_true q, decide_eq_false this]; exact Nat.le_refl _
    · rw [decide_eq_false q]; exact Nat.zero_le _
  show (kept.filter fun c => decide (ends ws g c = 0)).length < kept.length
  omega
theorem cutOff_end {ws : Wl} {notes : Keys} : ∀ (j : Nat) {kept : List Nat}, kept.length ≤ j → fstCut ws notes (cutOff ws notes j kept) = none
  | 0, kept, h => by
    have e : kept = [] := List.eq_nil_of_length_eq_zero (by omega)
    subst e
    refine List.find?_eq_none.mpr fun g _ z => ?_
    have := of_decide_eq_true z
    cases this
  | j + 1, kept, h => by
    cases e : fstCut ws notes kept with
    | none => rw [cutOff_stop e]; exact e
    | some g =>
      rw [cutOff_go e]
      exact cutOff_end j (by have := cutS_less e; omega)
theorem cutOff_sub {ws : Wl} {notes : Keys} : ∀ (j : Nat) {kept : List Nat}, ∀ c ∈ cutOff ws notes j kept, c ∈ kept
  | 0, kept, c, h => h
  | j + 1, kept, c, h => by
    cases e : fstCut ws notes kept with
    | none => rw [cutOff_stop e] at h; exact h
    | some g =>
      rw [cutOff_go e] at h
      exact (List.mem_filter.mp (cutOff_sub j c h)).1
theorem cutOff_nd {ws : Wl} {notes : Keys} : ∀ (j : Nat) {kept : List Nat}, kept.Nodup → (cutOff ws notes j kept).Nodup
  | 0, kept, h => h
  | j + 1, kept, h => by
    cases e : fstCut ws notes kept with
    | none => rw [cutOff_stop e]; exact h
    | some g => rw [cutOff_go e]; exact cutOff_nd j (h.filter _)
/-- more steps change nothing -/
theorem cutOff_more {ws : Wl} {notes : Keys} : ∀ (j i : Nat) {kept : List Nat}, kept.length ≤ j → cutOff ws notes (j + i) kept = cutOff ws notes j kept
  | 0, i, kept, h => by
    have e : kept = [] := List.eq_nil_of_length_eq_zero (by omega)
    subst e
    have : fstCut ws notes [] = none := cutOff_end (ws := ws) (notes := notes) 0 (kept := []) (Nat.le_refl _)
    rw [cutOff_stop this, cutOff_stop this]
  | j + 1, i, kept, h => by
    cases e : fstCut ws notes kept with
    | none => rw [cutOff_stop e, cutOff_stop e]
    | some g =>
      rw [show j + 1 + i = (j + i) + 1 by omega, cutOff_go e, cutOff_go e]
      exact cutOff_more j i (by have := cutS_less e; omega)
/-- the kept ways in the end -/
def kept0 (n root : Nat) (ws : Wl) (S : Gs) : List Nat := (tkn S).filter fun c => decide (ends ws (cls S.h n root) c = 2)
def keptF (n root : Nat) (fs : List Nat) (ws : Wl) : List Nat := cutOff ws (allF n root fs ws).2 (kept0 n root ws (allF n root fs ws).1).length (kept0 n root ws (allF n root fs ws).1)
def chF (n root : Nat) (fs : List Nat) (ws : Wl) : List Nat := (List.range ws.length).filter fun c => decide (c ∈ keptF n root fs ws)
theorem TkOk.groF {n root : Nat} {fs : List Nat} {ws : Wl} (W : Wf n ws) : ∀ (k : Nat) (Q : Gs × Keys), TkOk ws Q.1 → TkOk ws (groF n root fs ws k Q).1
  | 0, Q, T => T
  | k + 1, Q, T => by
    by_cases h : awk n root fs Q.1 = []
    · rw [groF_stop h]; exact T
    · have e : Mw.groF n root fs ws (k + 1) Q = Mw.groF n root fs ws k (turnF n root fs ws Q) := if_neg h
      rw [e]
      exact TkOk.groF W k _ (TkOk.takeAll W n ⟨T.h, T.fo, T.lt⟩)
theorem allF_tk {n root : Nat} {fs : List Nat} {ws : Wl} (W : Wf n ws) : TkOk ws (allF n root fs ws).1 := TkOk.groF W _ _ (TkOk.start ws)
theorem groF_J {n root : Nat} {fs : List Nat} {ws : Wl} (W : WsOk n ws) (hb : ∀ f ∈ fs, f ≤ 10000) : ∀ (k t b : Nat) (S : Gs) (nt : Keys), FJ n root fs ws t b k S nt → ∃ t' b' m', FJ n root fs ws t' b' m' (groF n root fs ws k (S, nt)).1 (groF n root fs ws k (S, nt)).2
  | 0, t, b, S, nt, J => ⟨t, b, 0, J⟩
  | k + 1, t, b, S, nt, J => by
    by_cases h : awk n root fs S = []
    · rw [groF_stop (Q := (S, nt)) h]; exact ⟨t, b, _, J⟩
    · have e : groF n root fs ws (k + 1) (S, nt) = groF n root fs ws k (turnF n root fs ws (S, nt)) := if_neg h
      rw [e]
      obtain ⟨t', J2⟩ := J.turn W hb h
      exact groF_J W hb k t' (b + 12) _ _ J2
theorem allF_J {n root : Nat} {fs : List Nat} {ws : Wl} (W : WsOk n ws) (hb : ∀ f ∈ fs, f ≤ 10000) : ∃ t b m, FJ n root fs ws t b m (allF n root fs ws).1 (allF n root fs ws).2 := groF_J W hb (2 * n) 0 0 start _ (FJ.start W)
theorem chF_ok {n root : Nat} {fs : List Nat} {ws : Wl} (W : Wf n ws) : (keptF n root fs ws).Nodup ∧ (∀ c ∈ keptF n root fs ws, c ∈ tkn (allF n root fs ws).1) ∧ (∀ c ∈ keptF n root fs ws, c < ws.length) ∧ Ch ws.length (chF n root fs ws) ∧ ∀ c, c ∈ chF n root fs ws ↔ c ∈ keptF n root fs ws := by
  have TK := allF_tk (root := root) (fs := fs) W
  have h1 : (keptF n root fs ws).Nodup := cutOff_nd _ (TK.fo.nd.filter _)
  have h2 : ∀ c ∈ keptF n root fs ws, c ∈ tkn (allF n root fs ws).1 := fun c hc => (List.mem_filter.mp (cutOff_sub _ c hc)).1
  have h3 : ∀ c ∈ keptF n root fs ws, c < ws.length := fun c hc => TK.lt c (h2 c hc)
  have h4 : ∀ c, c ∈ chF n root fs ws ↔ c ∈ keptF n root fs ws := fun c => by
    unfold chF
    rw [List.mem_filter, List.mem_range, decide_eq_true_eq]
    exact ⟨fun z => z.2, fun z => ⟨h3 c z, z⟩⟩
  exact ⟨h1, h2, h3, ⟨fun c hc => h3 c ((h4 c).mp hc), (range_pw _).filter _⟩, h4⟩
def spEnds (K : PySem.W.Frag) (T : List Addr) : Sp := fun vs H Q _ => ∃ (net : V) (b : Addr) (n c : Nat) (ws : Wl) (g : List Nat), vs = [net, .int (c : Nat), .ref b] ∧ Rp H (netD n ws) net ∧ c < ws.length ∧ SqT K H b (natsV g) ∧ ∀ H', Ext T noM H H' → Q (.int (ends ws g c : Nat)) H'
def spFirstCut (K : PySem.W.Frag) (T : List Addr) : Sp := fun vs H Q _ => ∃ (net : V) (ln lk : Addr) (nvs : List V) (n : Nat) (ws : Wl) (notes : Keys) (kept : List Nat), vs = [net, .ref ln, .ref lk] ∧ Rp H (netD n ws) net ∧ H ln = some (.lst nvs) ∧ TupsL H notes nvs ∧ H lk = some (.lst (natsV kept)) ∧ (∀ c ∈ kept, c < ws.length) ∧ kept.length ≤ 24 ∧
  ∀ v H', (match fstCut ws notes kept with | none => v = .non | some g => ∃ a, v = .ref a ∧ H' a = some (.tup (natsV g))) → Ext T noM H H' → Q v H'
def spCutOff (K : PySem.W.Frag) (T : List Addr) : Sp := fun vs H Q _ => ∃ (net : V) (ln lk : Addr) (nvs : List V) (n : Nat) (ws : Wl) (notes : Keys) (kept : List Nat), vs = [net, .ref ln, .ref lk] ∧ Rp H (netD n ws) net ∧ H ln = some (.lst nvs) ∧ TupsL H notes nvs ∧ H lk = some (.lst (natsV kept)) ∧ (∀ c ∈ kept, c < ws.length) ∧ kept.length ≤ 24 ∧
  ∀ l H', H' l = some (.lst (natsV (cutOff ws notes kept.length kept))) → Ext T noM H H' → Q (.ref l) H'
def spReach (K : PySem.W.Frag) (T : List Addr) (aC aD : Addr) : Sp := fun vs H Q _ => ∃ (net fv : V) (n root : Nat) (fs : List Nat) (ws : Wl), vs = [net, .int (root : Nat), fv] ∧ Wf n ws ∧ Rp H (netD n ws) net ∧ Rp H (finD fs) fv ∧ FnOkF n fs ∧ root < n ∧ Wd T H ∧
  ∀ a c l H', H' a = some (.tup [.ref c, .ref l]) → H' c = some (.tup (natsV (chF n root fs ws))) → H' l = some (.tup (natsV (lft (hom ws (chF n root fs ws)) n root))) → Ext T noM H H' → Q (.ref a) H'
def spFMoats (K : PySem.W.Frag) (T : List Addr) (aC aD : Addr) : Sp := fun vs H Q _ => ∃ (net fv : V) (n root : Nat) (fs : List Nat) (ws : Wl), vs = [net, .int (root : Nat), fv] ∧ Wf n ws ∧ Rp H (netD n ws) net ∧ Rp H (finD fs) fv ∧ FnOkF n fs ∧ root < n ∧ Wd T H ∧
  ∀ rs v H', PapOf (allF n root fs ws).1.wid rs → RpK K H' (papD rs) v → Ext T noM H H' → Q v H'
theorem RisV.grp {K : PySem.W.Frag} {H : Hp} {n : Nat} {h : Nat → Nat} {v : V} (r : RisV K H n h (reps h n) v) : Rp H (grpD h n) v := by
  obtain ⟨a, vs, rfl, h1, h2, h3⟩ := r.at_
  refine rp_t h1 ?_
  have key : ∀ (R : List Nat) (vs : List V), vs.length = R.length → (∀ (i r : Nat), R[i]? = some r → ∃ t : Addr, vs[i]? = some (V.ref t) ∧ H t = some (.tup (natsV (cls h n r)))) → RpL H ((R.map (cls h n)).map fun g => D.t (g.map fun (x : Nat) => D.i (x : Int))) vs := by
    intro R
    induction R with
    | nil => intro vs hl _; rw [List.eq_nil_of_length_eq_zero hl]; exact rpl_nil
    | cons r R ih =>
      intro vs hl hx
      cases vs with
      | nil => simp at hl
      | cons v vs =>
        obtain ⟨t, q1, q2⟩ := hx 0 r rfl
        have e : v = .ref t := by simpa using q1
        rw [e]
        exact rpl_cons (rp_ch (cs := cls h n r) q2) (ih vs (by simpa using hl) fun i q hq => by simpa using hx (i + 1) q (by simpa using hq))
  exact key _ vs h2 h3
section
variable {P : Program} {w : World} {K : PySem.W.Frag} {mg : Str → Option Value} {base : Heap} {T : List Addr} {aC aD : Addr}
theorem ok__group_of {f : Addr} {fd : FuncData} (F : Fun K "_group_of" "_group_of" s_group_of f fd) : FnOk P w K mg base CX0 1 f fd ["place", "found"] (spGroupOf T) := by
  refine F.ok sc_group_of (fun vs H Q E h => ?_) (fun cdv A outer s H vs Q E hr h => ?_)
  · obtain ⟨r, n, h, es, v, rfl, hv, HM, hrn, n12, k⟩ := h
    rfl
  · obtain ⟨r, n, h, es, v, rfl, hv, HM, hrn, n12, k⟩ := h
    refine ⟨_, (pss_one (ps_ret (pe_ix ix_list (pe_lc (own := [("group", 2)]) (g := (gName 2)) rfl sc_group_of.nd (pi_tup (pv 1)) (blkOk_by (own := [("group", 2)]) (N := ["place", "found", "group"]) (sc := defScope s_group_of) (by decide +kernel)) (fun _ _ _ _ _ => (pg_name (i := 2) sc_group_of.nd rfl (Or.inl rfl))) (fun _ _ _ _ _ => (pts_one (pt_cmpR (GE.in_seqK (K := K)) (pv 0) (pv 2) (by rfl)))) (fun _ _ _ _ _ => (pv 2))) pe_int (fun _ _ => rfl)))), ?_⟩
    obtain ⟨ga, vs, rfl, hga, hgr⟩ := hv.t
    have hgl : vs.length = (reps h n).length := by rw [hgr.len]; unfold grps; rw [List.length_map, List.length_map]
    have rl := reps_len h n
    refine ⟨_, rfl, ga, rfl, ⟨_, SqT.of hga⟩, fun Dl hD => ?_⟩
    refine lc_tup (K := K) (a := ga) (xs := vs) (fun j H' => ∃ acc, Ext T noM H H' ∧ H' Dl = some (.lst acc) ∧ acc.length ≤ j ∧ (h r ∈ (reps h n).take j → ∃ a rest, acc = V.ref a :: rest ∧ H a = some (.tup (natsV (cls h n r)))) ∧ (h r ∉ (reps h n).take j → acc = [])) ⟨[], Ext.new hD, upd_same, Nat.le_refl _, fun z => by simp at z, fun _ => rfl⟩ (fun j H' _ ⟨_, e, _⟩ => SqT.of (e.tup (fun z => z) hga)) ?_ ?_
    · rintro j x H3 hx ⟨acc, e, hD3, hal, hin, hout⟩
      have hj : j < (reps h n).length := by have := (List.getElem?_eq_some_iff.mp hx).1; omega
      obtain ⟨q, hq⟩ : ∃ q, (reps h n)[j]? = some q := ⟨_, List.getElem?_eq_getElem hj⟩
      obtain ⟨x', hx', hrn'⟩ := hgr.get (i := j) (d := chD (cls h n q)) (by unfold grps; rw [List.getElem?_map, List.getElem?_map, hq]; rfl)
      rw [hx] at hx'
      obtain rfl := Option.some.inj hx'
      obtain ⟨gt, rfl, hgt⟩ := ch_at hrn'
      obtain ⟨qn, qq⟩ := mem_reps'.mp (List.mem_of_getElem? hq)
      have hm : r ∈ cls h n q ↔ h r = q := by rw [mem_cls, qq]; exact ⟨fun z => z.2, fun z => ⟨hrn, z⟩⟩
      refine ⟨rfl, ?_⟩
      refine ⟨_, rfl, _, rfl, gt, _, rfl, .inr (SqT.of (e.tup (fun z => z) hgt)), rfl, flat_nats _, _, rfl, ?_⟩
      rw [show inV (V.int ((r : Nat) : Int)) (List.map (fun (c : Nat) => V.int (c : Int)) (cls h n q)) = decide (r ∈ cls h n q) from inV_nats _ _]
      refine ite2 (fun z => ?_) (fun z => ?_)
      · have z2 := hm.mp (of_decide_eq_true z)
        have hnot : h r ∉ (reps h n).take j := fun y => by
          have pw : (reps h n).Pairwise (· < ·) := (range_pw n).filter _
          have e9 := List.take_append_drop (j + 1) (reps h n)
          rw [take_succ' hq] at e9
          rw [← e9, List.append_assoc, List.pairwise_append] at pw
          have := pw.2.2 _ y q (by simp)
          omega
        have := hout hnot
        subst this
        have hcc : cls h n (h r) = cls h n r := by unfold cls; rw [HM.idem r hrn]
        refine ⟨_, rfl, [], hD3, by decide, _, e.mut (.inl hD) hD3 ltbl, upd_same, by show 1 ≤ j + 1; omega, fun _ => ⟨gt, [], rfl, by rw [← z2, hcc] at hgt; exact hgt⟩, fun y => absurd (show h r ∈ _ by rw [take_succ' hq, z2]; simp) y⟩
      · have z2 : ¬ h r = q := fun y => z (decide_eq_true (hm.mpr y))
        refine ⟨acc, e, hD3, Nat.le_succ_of_le hal, fun y => ?_, fun y => hout fun u => y (by rw [take_succ' hq]; exact List.mem_append_left _ u)⟩
        rw [take_succ' hq] at y
        rcases List.mem_append.mp y with u | u
        · exact hin u
        · exact absurd (List.mem_singleton.mp u) z2
    · rintro H3 ⟨acc, e, hD3, hal, hin, _⟩
      rw [hgl, List.take_length] at hin
      obtain ⟨a, rest, rfl, ha⟩ := hin (mem_reps'.mpr ⟨Nat.lt_of_le_of_lt (HM.le r hrn) hrn, HM.idem r hrn⟩)
      exact ⟨Dl, _, _, _, rfl, rfl, SqL.of hD3, at_of (j := 0) rfl rfl, k a H3 (e.tup (fun z => z) ha) e⟩
theorem ok__left {f : Addr} {fd : FuncData} {c PT : Addr} (F : GE.FunC K "_left" "_left" s_left f fd c) (TB : GxR.TabB base mg c PT) (hPT : PT ∈ T) (m_tuple : mg "tuple" = none) (m_range : mg "range" = none) {f_group_of : Addr} {fd_group_of : FuncData} (F_group_of : Fun K "_group_of" "_group_of" s_group_of f_group_of fd_group_of) (G_group_of : FnOk P w K mg base CX0 3 f_group_of fd_group_of ["place", "found"] (spGroupOf T)) (b_group_of : Binds K fd_group_of ["place", "found"] []) (g_group_of : mg "_group_of" = some (.ref f_group_of)) {fgroups : Addr} {fdgroups : FuncData} (Fgroups : Fun K "groups" "groups" sgroups fgroups fdgroups) (Ggroups : FnOk P w K mg base CX0 3 fgroups fdgroups ["net", "choice"] (spGroups T)) (bgroups : Binds K fdgroups ["net", "choice"] []) (ggroups : mg "groups" = some (.ref fgroups)) : FnOk P w K mg base CX0 4 f fd ["net", "root", "choice"] (spLeft T) := by
  refine F.ok sc_left (fun vs H Q E h => ?_) (fun A outer s H vs Q E hr h => ?_)
  · obtain ⟨net, ch, r, n, ws, cs, rfl, t, hrn, wd, k⟩ := h
    rfl
  · obtain ⟨net, ch, r, n, ws, cs, rfl, t, hrn, wd, k⟩ := h
    refine ⟨_, (pss_cons (ps_set (i := 3) sc_left.nd rfl (Or.inr rfl) (pe_call G_group_of hr (by rfl) g_group_of F_group_of.kp b_group_of .nil pass0 (pa_cons (pv 1) (pa_cons (pe_call Ggroups hr (by rfl) ggroups Fgroups.kp bgroups .nil pass0 (pa_cons (pv 0) (pa_cons (pv 2) pa_nil))) pa_nil))))
      (pss_one (ps_ret (GE.pe_tupG (own := [("place", 4)]) (g := (gName 4)) (k := 0) (hr.mono (by decide)) (by rfl) m_tuple sc_left.nd TB rfl (pi_range1 (by rfl) m_range (pa_cons (pe_ix ix_tup (pv 0) pe_int (fun _ _ => rfl)) pa_nil)) (GE.gblk_by (N := ["net", "root", "choice", "home", "place"]) (sc := defScope s_left) (by decide +kernel)) (fun _ _ _ _ _ _ _ _ => (pg_name (i := 4) sc_left.nd rfl (Or.inl rfl))) (fun _ _ _ _ _ _ _ _ hr' => (pts_one (pt_cmpR (GE.notIn_seqK (K := K)) (pv 4) (pv 3) (by rfl)))) (fun _ _ _ _ _ _ _ _ hr' => (pv 4)))))), ?_⟩
    have HM := hom_ok t.W cs t.C.lt
    have n12 := t.W.n12
    refine ⟨_, rfl, _, rfl, _, rfl, net, ch, n, ws, cs, rfl, t, wd, fun gv H1 hgv e1 => ?_⟩
    refine ⟨r, n, hom ws cs, _, gv, rfl, hgv, HM, hrn, n12, fun ga H2 hga e2 => ?_⟩
    have e12 := e1.trans e2
    obtain ⟨na, nb, us, rfl, ha, hb, hus⟩ := net_at (Rp.x e12 t.net)
    have wd2 := wd.ext e12
    refine ⟨_, rfl, na, _, _, _, rfl, rfl, SqT.of ha, at_of (j := 0) rfl rfl, n, rfl, by omega, by omega, wd2 PT hPT, fun H3 tb => ?_⟩
    have e3 : Ext T noM H2 H3 := Ext.tab (wd2 PT hPT) tb
    refine turn_rangeI (lo := 0) (n := ((n : Int)).toNat) (fun i ys H' => ys = natsV ((List.range i).filter fun x => decide (x ∉ cls (hom ws cs) n r)) ∧ Ext T noM H2 H') ⟨rfl, e3⟩ ?_ ?_
    · rintro ys H' ⟨rfl, e⟩ q hq
      rw [show ((n : Int)).toNat = n by omega]
      exact k q _ upd_same ((e12.trans e).trans (Ext.new hq))
    · rintro i ys H' hi ⟨rfl, e⟩ N hN
      have hi' : i < n := by omega
      have hz : (0 : Int) + (i : Int) = (i : Int) := Int.zero_add _
      rw [hz]
      have hsn := lft_take (h := hom ws cs) (n := n) (r := r) (i := i)
      have hle := List.length_filter_le (fun x => decide (x ∉ cls (hom ws cs) n r)) (List.range i)
      rw [List.length_range] at hle
      refine ⟨rfl, ?_⟩
      refine ⟨_, rfl, _, rfl, ga, _, rfl, .inr (SqT.of (e.tup (fun z => z) hga)), rfl, flat_nats _, _, rfl, ?_⟩
      rw [if_pos rfl, inV_nats]
      refine ite2 (fun z => ?_) (fun z => ?_)
      · have z2 : i ∉ cls (hom ws cs) n r := fun y => by rw [decide_eq_true y] at z; cases z
        rw [if_pos z2] at hsn
        refine ⟨_, rfl, ?_, hN _ _ ⟨?_, e⟩⟩
        · unfold natsV; rw [List.length_map]; exact small1000 (by omega)
        · rw [hsn]; unfold natsV; rw [List.map_append]; rfl
      · have z2 : ¬ i ∉ cls (hom ws cs) n r := fun y => z (by rw [decide_eq_false y]; rfl)
        rw [if_neg z2, List.append_nil] at hsn
        exact hN _ _ ⟨by rw [hsn], e⟩
theorem ok__ends_within {f : Addr} {fd : FuncData} (F : Fun K "_ends_within" "_ends_within" s_ends_within f fd) (m_len : mg "len" = none) : FnOk P w K mg base CX0 1 f fd ["net", "way", "places"] (spEnds K T) := by
  refine F.ok sc_ends_within (fun vs H Q E h => ?_) (fun cdv A outer s H vs Q E hr h => ?_)
  · obtain ⟨net, b, n, c, ws, gg, rfl, hnet, hc, hb, k⟩ := h
    rfl
  · obtain ⟨net, b, n, c, ws, gg, rfl, hnet, hc, hb, k⟩ := h
    refine ⟨_, (pss_cons (ps_asg (pe_ix ix_tup (pe_ix ix_tup (pv 0) pe_int (fun _ _ => rfl)) (pv 1) (fun _ _ => rfl)) (pg_tup (by rfl) (pgs_cons (pg_name (i := 3) sc_ends_within.nd rfl (Or.inl rfl)) (pgs_cons (pg_name (i := 4) sc_ends_within.nd rfl (Or.inl rfl)) (pgs_cons (pg_name (i := 5) sc_ends_within.nd rfl (Or.inl rfl)) pgs_nil)))))
      (pss_one (ps_ret (pe_callB call_len_seq (by rfl) m_len PySem.boot_len (pa_cons (pe_lc (own := [("end", 6)]) (g := (gName 6)) rfl sc_ends_within.nd (pi_tup (pe_tup (pa_cons (pv 3) (pa_cons (pv 4) pa_nil)))) (blkOk_by (own := [("end", 6)]) (N := ["net", "way", "places", "a", "b", "_", "end"]) (sc := defScope s_ends_within) (by decide +kernel)) (fun _ _ _ _ _ => (pg_name (i := 6) sc_ends_within.nd rfl (Or.inl rfl))) (fun _ _ _ _ _ => (pts_one (pt_cmpR (GE.in_seqK (K := K)) (pv 6) (pv 2) (by rfl)))) (fun _ _ _ _ _ => (pv 6))) pa_nil))))), ?_⟩
    obtain ⟨na, nb, us, rfl, ha, hbb, hus⟩ := net_at hnet
    obtain ⟨xa, g1, g2⟩ := way_get2 hus hc
    refine ⟨_, rfl, na, _, _, _, rfl, rfl, SqT.of ha, at_of (j := 1) rfl rfl, _, rfl, nb, _, _, _, rfl, rfl, SqT.of hbb, at_of (j := c) rfl g1, xa, _, rfl, SqT.of g2, rfl, _, _, rfl, _, _, rfl, _, _, rfl, rfl, ?_⟩
    refine ⟨_, rfl, _, rfl, by show 2 ≤ sizeLine; decide, fun tt htt => ?_⟩
    have ett : Ext T noM H (upd H tt (.tup [.int (way ws c).1, .int (way ws c).2.1])) := Ext.new htt
    have htt2 : (upd H tt (.tup [.int (way ws c).1, .int (way ws c).2.1])) tt = some (.tup [.int (way ws c).1, .int (way ws c).2.1]) := upd_same
    generalize (upd H tt (.tup [.int (way ws c).1, .int (way ws c).2.1])) = Ht at ett htt2 ⊢
    refine ⟨tt, rfl, ⟨_, SqT.of htt2⟩, fun Dl hD => ?_⟩
    refine lc_tup (K := K) (a := tt) (xs := [.int (way ws c).1, .int (way ws c).2.1]) (fun j H' => ∃ acc, Ext T noM Ht H' ∧ H' Dl = some (.lst acc) ∧ acc.length = (if 0 < j ∧ (way ws c).1 ∈ gg then 1 else 0) + (if 1 < j ∧ (way ws c).2.1 ∈ gg then 1 else 0)) ⟨[], Ext.new hD, upd_same, by simp⟩ (fun j H' _ ⟨_, e, _⟩ => SqT.of (e.tup (fun z => z) htt2)) ?_ ?_
    · rintro j x H3 hx3 ⟨acc, e3, hD3, hal⟩
      have hal3 : acc.length ≤ 2 := by rw [hal]; split <;> split <;> omega
      match j, hx3 with
      | 0, hx3 =>
        obtain rfl : V.int ((way ws c).1 : Nat) = x := by simpa using hx3
        refine ⟨rfl, _, rfl, _, rfl, b, _, rfl, .inr (SqT.x hb (ett.trans e3) fun z => z), rfl, flat_nats _, _, rfl, ?_⟩
        rw [inV_nats, if_neg Bool.false_ne_true]
        refine ite2 (fun q => ?_) (fun q => ?_)
        · have q' := of_decide_eq_true q
          refine ⟨_, rfl, acc, hD3, small1000 (by omega), _, e3.mut (.inl hD) hD3 ltbl, upd_same, ?_⟩
          rw [List.length_append, List.length_singleton, hal]; simp [q']
        · have q' : ¬ (way ws c).1 ∈ gg := fun z => q (decide_eq_true z)
          exact ⟨acc, e3, hD3, by rw [hal]; simp [q']⟩
      | 1, hx3 =>
        obtain rfl : V.int ((way ws c).2.1 : Nat) = x := by simpa using hx3
        refine ⟨rfl, _, rfl, _, rfl, b, _, rfl, .inr (SqT.x hb (ett.trans e3) fun z => z), rfl, flat_nats _, _, rfl, ?_⟩
        rw [inV_nats, if_neg Bool.false_ne_true]
        refine ite2 (fun q => ?_) (fun q => ?_)
        · have q' := of_decide_eq_true q
          refine ⟨_, rfl, acc, hD3, small1000 (by omega), _, e3.mut (.inl hD) hD3 ltbl, upd_same, ?_⟩
          rw [List.length_append, List.length_singleton, hal]; simp [q']
        · have q' : ¬ (way ws c).2.1 ∈ gg := fun z => q (decide_eq_true z)
          exact ⟨acc, e3, hD3, by rw [hal]; simp [q']⟩
      | j + 2, hx3 => simp at hx3
    rintro H3 ⟨acc, e3, hD3, hal⟩
    have hal2 : acc.length = ends ws gg c := by rw [hal]; unfold ends; simp
    refine ⟨Dl, acc, rfl, .inl (SqL.of hD3), ?_⟩
    rw [hal2]
    exact k H3 (ett.trans e3)
theorem ok__first_to_cut {f : Addr} {fd : FuncData} (F : Fun K "_first_to_cut" "_first_to_cut" s_first_to_cut f fd) (m_len : mg "len" = none) {f_ends_within : Addr} {fd_ends_within : FuncData} (F_ends_within : Fun K "_ends_within" "_ends_within" s_ends_within f_ends_within fd_ends_within) (G_ends_within : FnOk P w K mg base CX0 1 f_ends_within fd_ends_within ["net", "way", "places"] (spEnds K T)) (b_ends_within : Binds K fd_ends_within ["net", "way", "places"] []) (g_ends_within : mg "_ends_within" = some (.ref f_ends_within)) : FnOk P w K mg base CX0 2 f fd ["net", "notes", "kept"] (spFirstCut K T) := by
  refine F.ok sc_first_to_cut (fun vs H Q E h => ?_) (fun cdv A outer s H vs Q E hr h => ?_)
  · obtain ⟨net, ln, lk, nvs, n, ws, notes, kept, rfl, hnet, hln, hnt, hlk, hkl, k24, k⟩ := h
    rfl
  · obtain ⟨net, ln, lk, nvs, n, ws, notes, kept, rfl, hnet, hln, hnt, hlk, hkl, k24, k⟩ := h
    refine ⟨_, (pss_cons (ps_for PassesOwn.never rfl (pi_list (pv 1)) (pg_name (i := 3) sc_first_to_cut.nd rfl (Or.inr rfl)) (pss_one (ps_if (pt_cmpR op_eq (pe_callB call_len_seq (by rfl) m_len PySem.boot_len (pa_cons (pe_lc (own := [("way", 4)]) (g := (gName 4)) rfl sc_first_to_cut.nd (pi_list (pv 2)) (blkOk_by (own := [("way", 4)]) (N := ["net", "notes", "kept", "group", "way"]) (sc := defScope s_first_to_cut) (by decide +kernel)) (fun _ _ _ _ _ => (pg_name (i := 4) sc_first_to_cut.nd rfl (Or.inl rfl))) (fun _ _ _ _ _ => (pts_one (pt_cmpR op_eq (pe_call G_ends_within hr (by rfl) g_ends_within F_ends_within.kp b_ends_within .nil pass0 (pa_cons (pv 0) (pa_cons (pv 4) (pa_cons (pv 3) pa_nil)))) pe_int (nomark _)))) (fun _ _ _ _ _ => (pv 4))) pa_nil)) pe_int (nomark _)) (pss_one (ps_ret (pv 3))) pss_nil)))
      (pss_one (ps_ret pe_non))), ?_⟩
    refine ⟨_, rfl, ln, rfl, ⟨_, SqL.of hln⟩, for_list (K := K) (a := ln) (xs := nvs) (fun i σ' H' => ∃ y3 y4, σ' = [some net, some (.ref ln), some (.ref lk), y3, y4] ∧ Ext T noM H H' ∧ ∀ g ∈ notes.take i, decide ((leads ws kept g).length = 1) = false) ⟨none, none, rfl, Ext.refl _ _ _, fun g h => by simp at h⟩ (fun i σ' H' _ ⟨_, _, _, e, _⟩ => SqL.of (e.lst (fun z => z) hln)) ?_ ?_⟩
    · rintro i x σ' H1 hx ⟨y3, y4, rfl, e1, hno⟩
      have hi : i < notes.length := by have := (List.getElem?_eq_some_iff.mp hx).1; have := hnt.1; omega
      have hni : notes[i]? = some notes[i] := List.getElem?_eq_getElem hi
      obtain ⟨gt, g1, g2⟩ := hnt.2 i notes[i] hni
      rw [hx] at g1
      obtain rfl := Option.some.inj g1
      have hlk1 := e1.lst (fun z => z) hlk
      have hkv : (natsV kept).length = kept.length := by unfold natsV; rw [List.length_map]
      refine ⟨_, rfl, lk, rfl, ⟨_, SqL.of hlk1⟩, fun Dl hD => ?_⟩
      refine lc_list (xs := natsV kept) (fun j H' => Ext T noM H1 H' ∧ H' Dl = some (.lst (natsV (leads ws (kept.take j) notes[i])))) ⟨Ext.new hD, upd_same⟩ (fun j H' _ q => SqL.of (q.1.lst (fun z => z) hlk1)) ?_ ?_
      · rintro j x H2 hx2 ⟨e2, hD2⟩
        have hj : j < kept.length := by have := (List.getElem?_eq_some_iff.mp hx2).1; omega
        have hkj : kept[j]? = some kept[j] := List.getElem?_eq_getElem hj
        have ex : x = .int ((kept[j] : Nat) : Int) := by
          unfold natsV at hx2
          rw [List.getElem?_map, hkj] at hx2
          exact (Option.some.inj hx2).symm
        subst ex
        have e12 := e1.trans e2
        have hsn : leads ws (kept.take (j + 1)) notes[i] = leads ws (kept.take j) notes[i] ++ if ends ws notes[i] kept[j] = 1 then [kept[j]] else [] := by
          unfold leads
          rw [take_succ' hkj, List.filter_append]; by_cases z : ends ws notes[i] kept[j] = 1 <;> simp [z]
        have hfl := List.length_filter_le (fun c => decide (ends ws notes[i] c = 1)) (kept.take j)
        rw [List.length_take] at hfl
        refine ⟨rfl, _, rfl, _, rfl, _, rfl, net, gt, n, kept[j], ws, notes[i], rfl, Rp.x e12 hnet, hkl _ (List.getElem_mem hj), SqT.of (e12.tup (fun z => z) g2), fun H3 e3 => ⟨rfl, _, rfl, ?_⟩⟩
        have hD3 := e3.lst (fun z => z) hD2
        have dec : decide (V.int ((ends ws notes[i] kept[j] : Nat) : Int) = V.int 1) = decide (ends ws notes[i] kept[j] = 1) := decide_eq_decide.mpr (vint_inj (b := 1))
        rw [dec]
        refine ite2 (fun q => ?_) (fun q => ?_)
        · rw [if_pos (of_decide_eq_true q)] at hsn
          refine ⟨_, rfl, _, hD3, ?_, (e2.trans e3).mut (.inl hD) hD3 ltbl, ?_⟩
          · unfold natsV; rw [List.length_map]; unfold leads; exact small1000 (by omega)
          · rw [upd_same, hsn]; unfold natsV; rw [List.map_append]; rfl
        · rw [if_neg (fun z => q (decide_eq_true z)), List.append_nil] at hsn
          exact ⟨e2.trans e3, by rw [hsn]; exact hD3⟩
      rintro H2 ⟨e2, hD2⟩
      rw [hkv, List.take_length] at hD2
      have e12 := e1.trans e2
      refine ⟨Dl, _, rfl, .inl (SqL.of hD2), rfl, _, rfl, ?_⟩
      have hll : (natsV (leads ws kept notes[i])).length = (leads ws kept notes[i]).length := by unfold natsV; rw [List.length_map]
      rw [hll]
      have dec : decide (V.int (((leads ws kept notes[i]).length : Nat) : Int) = V.int 1) = decide ((leads ws kept notes[i]).length = 1) := decide_eq_decide.mpr (vint_inj (b := 1))
      rw [dec]
      refine ite2 (fun q => ?_) (fun q => ?_)
      · refine ⟨_, rfl, k (.ref gt) H2 ?_ e12⟩
        have : fstCut ws notes kept = some notes[i] := by
          unfold fstCut
          exact find_at hni hno q
        rw [this]
        exact ⟨gt, rfl, e12.tup (fun z => z) g2⟩
      · refine ⟨_, _, rfl, e12, fun g hg => ?_⟩
        rw [take_succ' hni] at hg
        rcases List.mem_append.mp hg with z | z
        · exact hno g z
        · rw [List.mem_singleton.mp z]; exact Bool.eq_false_iff.mpr q
    · rintro σ' H1 ⟨y3, y4, rfl, e1, hno⟩
      rw [hnt.1, List.take_length] at hno
      refine k .non H1 ?_ e1
      have : fstCut ws notes kept = none := List.find?_eq_none.mpr fun g hg z => by rw [hno g hg] at z; cases z
      rw [this]
theorem ok__cut_off {f : Addr} {fd : FuncData} (F : Fun K "_cut_off" "_cut_off" s_cut_off f fd) {f_first_to_cut : Addr} {fd_first_to_cut : FuncData} (F_first_to_cut : Fun K "_first_to_cut" "_first_to_cut" s_first_to_cut f_first_to_cut fd_first_to_cut) (G_first_to_cut : FnOk P w K mg base CX0 2 f_first_to_cut fd_first_to_cut ["net", "notes", "kept"] (spFirstCut K T)) (b_first_to_cut : Binds K fd_first_to_cut ["net", "notes", "kept"] []) (g_first_to_cut : mg "_first_to_cut" = some (.ref f_first_to_cut)) {f_ends_within : Addr} {fd_ends_within : FuncData} (F_ends_within : Fun K "_ends_within" "_ends_within" s_ends_within f_ends_within fd_ends_within) (G_ends_within : FnOk P w K mg base CX0 2 f_ends_within fd_ends_within ["net", "way", "places"] (spEnds K T)) (b_ends_within : Binds K fd_ends_within ["net", "way", "places"] []) (g_ends_within : mg "_ends_within" = some (.ref f_ends_within)) : FnOk P w K mg base CX0 3 f fd ["net", "notes", "kept"] (spCutOff K T) := by
  refine F.ok sc_cut_off (fun vs H Q E h => ?_) (fun cdv A outer s H vs Q E hr h => ?_)
  · obtain ⟨net, ln, lk, nvs, n, ws, notes, kept, rfl, hnet, hln, hnt, hlk, hkl, k24, k⟩ := h
    rfl
  · obtain ⟨net, ln, lk, nvs, n, ws, notes, kept, rfl, hnet, hln, hnt, hlk, hkl, k24, k⟩ := h
    refine ⟨_, (pss_cons (ps_set (i := 3) sc_cut_off.nd rfl (Or.inl rfl) (pv 2))
      (pss_cons (ps_set (i := 4) sc_cut_off.nd rfl (Or.inr rfl) (pe_call G_first_to_cut hr (by rfl) g_first_to_cut F_first_to_cut.kp b_first_to_cut .nil pass0 (pa_cons (pv 0) (pa_cons (pv 1) (pa_cons (pv 3) pa_nil)))))
      (pss_cons (ps_while PassesOwn.never (pt_cmpR op_notN (pv 4) pe_non (nomark _)) (pss_cons (ps_setLc (i := 3) (own := [("way", 5)]) (g := (gName 5)) rfl sc_cut_off.nd rfl rfl (sw_true rfl rfl rfl (by decide +kernel)) (pi_list (pv 3)) (blkOk_by (own := [("way", 5)]) (N := ["net", "notes", "kept", "left", "group", "way"]) (sc := defScope s_cut_off) (by decide +kernel)) (fun _ _ _ _ _ => (pg_name (i := 5) sc_cut_off.nd rfl (Or.inl rfl))) (fun _ _ _ _ _ => (pts_one (pt_cmpR op_eq (pe_call G_ends_within hr (by rfl) g_ends_within F_ends_within.kp b_ends_within .nil pass0 (pa_cons (pv 0) (pa_cons (pv 5) (pa_cons (pv 4) pa_nil)))) pe_int (nomark _)))) (fun _ _ _ _ _ => (pv 5)))
      (pss_one (ps_set (i := 4) sc_cut_off.nd rfl (Or.inr rfl) (pe_call G_first_to_cut hr (by rfl) g_first_to_cut F_first_to_cut.kp b_first_to_cut .nil pass0 (pa_cons (pv 0) (pa_cons (pv 1) (pa_cons (pv 3) pa_nil))))))))
      (pss_one (ps_ret (pv 3)))))), ?_⟩
    refine ⟨_, rfl, ?_⟩
    refine ⟨_, rfl, _, rfl, _, rfl, net, ln, lk, nvs, n, ws, notes, kept, rfl, hnet, hln, hnt, hlk, hkl, k24, fun v0 H1 hv0 e1 => ?_⟩
    refine ⟨fun j σ' H' => ∃ L l v y5, σ' = [some net, some (.ref ln), some (.ref lk), some (.ref l), some v, y5] ∧ L.length ≤ j ∧ L.length ≤ 24 ∧ cutOff ws notes j L = cutOff ws notes kept.length kept ∧ (∀ c ∈ L, c ∈ kept) ∧ H' l = some (.lst (natsV L)) ∧ (match fstCut ws notes L with | none => v = .non | some g => ∃ a, v = .ref a ∧ H' a = some (.tup (natsV g))) ∧ Ext T noM H H',
      ⟨kept.length, kept, lk, v0, none, rfl, Nat.le_refl _, k24, rfl, fun c h => h, e1.lst (fun z => z) hlk, hv0, e1⟩, ?_⟩
    rintro j σ' H2 ⟨L, l, v, y5, rfl, hLj, hLl, heq, hsub, hl, hv, e2⟩
    cases hf : fstCut ws notes L with
    | none =>
      rw [hf] at hv
      have hv : v = .non := hv
      subst hv
      refine ⟨_, rfl, rfl, _, rfl, iteF ?_⟩
      rw [cutOff_stop hf] at heq
      exact ⟨_, rfl, k l H2 (by rw [← heq]; exact hl) e2⟩
    | some g =>
      rw [hf] at hv
      obtain ⟨ga, rfl, hga⟩ := hv
      have hless := cutS_less hf
      obtain ⟨i, rfl⟩ : ∃ i, j = i + 1 := ⟨j - 1, by omega⟩
      rw [cutOff_go hf] at heq
      refine ⟨_, rfl, rfl, _, rfl, iteT ?_⟩
      refine ⟨fun σ' H' => ∃ L l v y5, σ' = [some net, some (.ref ln), some (.ref lk), some (.ref l), some v, y5] ∧ L.length ≤ i ∧ L.length ≤ 24 ∧ cutOff ws notes i L = cutOff ws notes kept.length kept ∧ (∀ c ∈ L, c ∈ kept) ∧ H' l = some (.lst (natsV L)) ∧ (match fstCut ws notes L with | none => v = .non | some g => ∃ a, v = .ref a ∧ H' a = some (.tup (natsV g))) ∧ Ext T noM H H', fun σ' H' z => ⟨i, Nat.lt_succ_self _, z⟩, ?_⟩
      have hkv : (natsV L).length = L.length := by unfold natsV; rw [List.length_map]
      refine ⟨_, rfl, l, rfl, ⟨_, SqL.of hl⟩, fun Dl hD => ?_⟩
      refine lc_list (xs := natsV L) (fun j H' => Ext T noM H2 H' ∧ H' Dl = some (.lst (natsV (cutS ws (L.take j) g)))) ⟨Ext.new hD, upd_same⟩ (fun j H' _ q => SqL.of (q.1.lst (fun z => z) hl)) ?_ ?_
      · rintro j x H3 hx3 ⟨e3, hD3⟩
        have hj : j < L.length := by have := (List.getElem?_eq_some_iff.mp hx3).1; omega
        have hkj : L[j]? = some L[j] := List.getElem?_eq_getElem hj
        have ex : x = .int ((L[j] : Nat) : Int) := by
          unfold natsV at hx3
          rw [List.getElem?_map, hkj] at hx3
          exact (Option.some.inj hx3).symm
        subst ex
        have e23 := e2.trans e3
        have hsn : cutS ws (L.take (j + 1)) g = cutS ws (L.take j) g ++ if ends ws g L[j] = 0 then [L[j]] else [] := by
          unfold cutS
          rw [take_succ' hkj, List.filter_append]; by_cases z : ends ws g L[j] = 0 <;> simp [z]
        have hfl := List.length_filter_le (fun c => decide (ends ws g c = 0)) (L.take j)
        rw [List.length_take] at hfl
        refine ⟨rfl, _, rfl, _, rfl, _, rfl, net, ga, n, L[j], ws, g, rfl, Rp.x e23 hnet, hkl _ (hsub _ (List.getElem_mem hj)), SqT.of (e3.tup (fun z => z) hga), fun H4 e4 => ⟨rfl, _, rfl, ?_⟩⟩
        have hD4 := e4.lst (fun z => z) hD3
        have dec : decide (V.int ((ends ws g L[j] : Nat) : Int) = V.int 0) = decide (ends ws g L[j] = 0) := decide_eq_decide.mpr (vint_inj (b := 0))
        rw [dec]
        refine ite2 (fun q => ?_) (fun q => ?_)
        · rw [if_pos (of_decide_eq_true q)] at hsn
          refine ⟨_, rfl, _, hD4, ?_, (e3.trans e4).mut (.inl hD) hD4 ltbl, ?_⟩
          · unfold natsV; rw [List.length_map]; unfold cutS; exact small1000 (by omega)
          · rw [upd_same, hsn]; unfold natsV; rw [List.map_append]; rfl
        · rw [if_neg (fun z => q (decide_eq_true z)), List.append_nil] at hsn
          exact ⟨e3.trans e4, by rw [hsn]; exact hD4⟩
      rintro H3 ⟨e3, hD3⟩
      rw [hkv, List.take_length] at hD3
      have e23 := e2.trans e3
      have hsub2 : ∀ c ∈ cutS ws L g, c ∈ kept := fun c hc => hsub c (List.mem_filter.mp hc).1
      have hnt3 : TupsL H3 notes nvs := hnt.tup fun b xs => e23.tup (fun z => z)
      refine ⟨_, rfl, _, rfl, _, rfl, net, ln, Dl, nvs, n, ws, notes, cutS ws L g, rfl, Rp.x e23 hnet, e23.lst (fun z => z) hln, hnt3, hD3, fun c hc => hkl c (hsub2 c hc), by omega, fun v5 H5 hv5 e5 => ?_⟩
      exact ⟨cutS ws L g, Dl, v5, _, rfl, by omega, by omega, heq, hsub2, e5.lst (fun z => z) hD3, hv5, e23.trans e5⟩
end
end Mw

set_option Elab.async false
set_option linter.all false
set_option maxRecDepth 100000
set_option maxHeartbeats 4000000
namespace Mw
open PySem PySem.Spec PyProof.Rows L2 GE
/-! ### an invariant of the growth with fines -/
theorem groF_ind {n root : Nat} {fs : List Nat} {ws : Wl} (W : WsOk n ws) (hb : ∀ f ∈ fs, f ≤ 10000) {I : Gs × Keys → Prop} (hs : ∀ (t b : Nat) (Q : Gs × Keys), FI n root fs ws t b Q.1 → awk n root fs Q.1 ≠ [] → I Q → I (turnF n root fs ws Q)) :
    ∀ (k t b : Nat) (Q : Gs × Keys), FI n root fs ws t b Q.1 → I Q → I (groF n root fs ws k Q)
  | 0, t, b, Q, _, h => h
  | k + 1, t, b, Q, F, h => by
    by_cases hA : awk n root fs Q.1 = []
    · rw [groF_stop hA]; exact h
    · have e : groF n root fs ws (k + 1) Q = groF n root fs ws k (turnF n root fs ws Q) := if_neg hA
      rw [e]
      obtain ⟨_, t', F2, _⟩ := F.turn W hb hA
      exact groF_ind W hb hs k t' (b + 12) (turnF n root fs ws Q) F2 (hs t b Q F hA h)
theorem allF_ind {n root : Nat} {fs : List Nat} {ws : Wl} (W : WsOk n ws) (hb : ∀ f ∈ fs, f ≤ 10000) {I : Gs × Keys → Prop} (h0 : I (start, noteL root fs start [] ((reps start.h n).map (cls start.h n)))) (hs : ∀ (t b : Nat) (Q : Gs × Keys), FI n root fs ws t b Q.1 → awk n root fs Q.1 ≠ [] → I Q → I (turnF n root fs ws Q)) : I (allF n root fs ws) :=
  groF_ind W hb hs (2 * n) 0 0 _ (FI.start W) h0
theorem turnF_1 {n root : Nat} {fs : List Nat} {ws : Wl} {S : Gs} {nt : Keys} : (turnF n root fs ws (S, nt)).1 = takeAll ws n (grow n S (awk n root fs S) (spanF n root fs ws S)) := rfl
theorem turnF_wid {n root : Nat} {fs : List Nat} {ws : Wl} {S : Gs} {nt : Keys} : (turnF n root fs ws (S, nt)).1.wid = (awk n root fs S).foldl (fun w r => addW w (cls S.h n r) (spanF n root fs ws S)) S.wid := by
  rw [turnF_1, (takeAll_time ws n _).2.2]; rfl
theorem awk_ok {n root : Nat} {fs : List Nat} {S : Gs} : ∀ r ∈ awk n root fs S, r < n ∧ S.h r = r := fun r hr => (mem_awk.mp hr).1
theorem FI.span {n root t b : Nat} {fs : List Nat} {ws : Wl} {S : Gs} (W : WsOk n ws) (F : FI n root fs ws t b S) (hA : awk n root fs S ≠ []) : t < 12 ∧ 0 < spanF n root fs ws S ∧ ∀ r ∈ awk n root fs S, spanF n root fs ws S ≤ rest fs S (cls S.h n r) := by
  obtain ⟨r1, hr1⟩ := List.exists_mem_of_ne_nil _ hA
  have hpos : 0 < (reps S.h n).length := List.length_pos_of_mem (mem_reps'.mpr (mem_awk.mp hr1).1)
  have hc := F.c
  have n12 := W.n12
  have ht : t < 12 := by omega
  obtain ⟨x, _, hsp, x0, _, hr, _⟩ := spanF_ok F.m.g ht F.f hA
  exact ⟨ht, by rw [hsp]; exact x0, by rw [hsp]; exact hr⟩
theorem FI.grown {n root t b : Nat} {fs : List Nat} {ws : Wl} {S : Gs} (W : WsOk n ws) (F : FI n root fs ws t b S) (hb : ∀ f ∈ fs, f ≤ 10000) (hA : awk n root fs S ≠ []) : ∃ t' b', FM n root fs ws t' b' (grow n S (awk n root fs S) (spanF n root fs ws S)) := by
  obtain ⟨t', _, FG, _⟩ := F.m.grow hb W.n12 (F.span W hA).1 F.f hA
  exact ⟨t', b + 12, FG⟩
/-! ### the notes: nested or apart, without rests -/
def Apt (A B : List Nat) : Prop := ∀ x ∈ A, x ∉ B
def Nst (A B : List Nat) : Prop := (∀ x ∈ A, x ∈ B) ∨ (∀ x ∈ B, x ∈ A) ∨ Apt A B
structure NG (n root : Nat) (fs : List Nat) (S : Gs) (nt : Keys) : Prop where
  lam : ∀ A ∈ nt, ∀ B ∈ nt, Nst A B
  grp : ∀ A ∈ nt, A ≠ [] ∧ A.Pairwise (· < ·) ∧ (∀ x ∈ A, x < n ∧ ∀ y ∈ A, S.h x = S.h y) ∧ root ∉ A ∧ rest fs S A = 0
theorem NG.h {n root : Nat} {fs : List Nat} {S S' : Gs} {nt : Keys} (N : NG n root fs S nt) (hh : ∀ x y, x < n → y < n → S.h x = S.h y → S'.h x = S'.h y) (hr : ∀ A ∈ nt, rest fs S' A = rest fs S A) : NG n root fs S' nt := by
  refine ⟨N.lam, fun A hA => ?_⟩
  obtain ⟨g1, g2, g3, g4, g5⟩ := N.grp A hA
  exact ⟨g1, g2, fun x hx => ⟨(g3 x hx).1, fun y hy => hh x y (g3 x hx).1 (g3 y hy).1 ((g3 x hx).2 y hy)⟩, g4, by rw [hr A hA]; exact g5⟩
theorem NG.take {n root t b : Nat} {fs : List Nat} {ws : Wl} {S : Gs} {nt : Keys} {c : Nat} (W : WsOk n ws) (G : GB n ws t b S) (N : NG n root fs S nt) (hc : c < ws.length) : NG n root fs (take1 ws S c) nt := by
  obtain ⟨es, H⟩ := G.hom
  obtain ⟨w1, w2⟩ := way_lt' W hc
  exact N.h (fun x y hx hy e => relab_same H w1 w2 hx hy e) fun A _ => rfl
theorem NG.put {n root t b : Nat} {fs : List Nat} {ws : Wl} {S : Gs} {nt : Keys} {a : Nat} (G : GB n ws t b S) (N : NG n root fs S nt) (ha : a < n) (h0 : root ∉ cls S.h n a → 0 ≤ rest fs S (cls S.h n a)) : NG n root fs S (note1 root fs S nt (cls S.h n a)) := by
  by_cases q : root ∉ cls S.h n a ∧ ¬ 0 < rest fs S (cls S.h n a) ∧ cls S.h n a ∉ nt
  · have e : note1 root fs S nt (cls S.h n a) = nt ++ [cls S.h n a] := if_pos q
    rw [e]
    have hn : ∀ A ∈ nt, Nst A (cls S.h n a) := fun A hA => by
      obtain ⟨g1, g2, g3, g4, g5⟩ := N.grp A hA
      obtain ⟨y, hy⟩ := List.exists_mem_of_ne_nil _ g1
      by_cases z : S.h y = S.h a
      · exact .inl fun x hx => mem_cls.mpr ⟨(g3 x hx).1, ((g3 x hx).2 y hy).trans z⟩
      · exact .inr (.inr fun x hx hxc => z (((g3 x hx).2 y hy).symm.trans (mem_cls.mp hxc).2))
    have hsym : ∀ A B, Nst A B → Nst B A := fun A B h => by
      rcases h with z | z | z
      · exact .inr (.inl z)
      · exact .inl z
      · exact .inr (.inr fun x hx hxa => z x hxa hx)
    refine ⟨fun A hA B hB => ?_, fun A hA => ?_⟩
    · rcases List.mem_append.mp hA with u | u <;> rcases List.mem_append.mp hB with v | v
      · exact N.lam A u B v
      · rw [List.mem_singleton.mp v]; exact hn A u
      · rw [List.mem_singleton.mp u]; exact hsym _ _ (hn B v)
      · rw [List.mem_singleton.mp u, List.mem_singleton.mp v]; exact .inl fun x hx => hx
    · rcases List.mem_append.mp hA with u | u
      · exact N.grp A u
      · rw [List.mem_singleton.mp u]
        have := h0 q.1
        have := q.2.1
        exact ⟨List.ne_nil_of_mem (mem_cls.mpr ⟨ha, rfl⟩), cls_pw _ _ _, fun x hx => ⟨(mem_cls.mp hx).1, fun y hy => (mem_cls.mp hx).2.trans (mem_cls.mp hy).2.symm⟩, q.1, by omega⟩
  · have e : note1 root fs S nt (cls S.h n a) = nt := if_neg q
    rw [e]; exact N
theorem NG.putL {n root t b : Nat} {fs : List Nat} {ws : Wl} {S : Gs} (G : GB n ws t b S) (h0 : ∀ r, r < n → S.h r = r → root ∉ cls S.h n r → 0 ≤ rest fs S (cls S.h n r)) : ∀ (R : List Nat) (nt : Keys), (∀ r ∈ R, r < n ∧ S.h r = r) → NG n root fs S nt → NG n root fs S (noteL root fs S nt (R.map (cls S.h n)))
  | [], nt, _, N => N
  | r :: R, nt, hR, N => by
    show NG n root fs S (noteL root fs S (note1 root fs S nt (cls S.h n r)) (R.map (cls S.h n)))
    obtain ⟨r1, r2⟩ := hR r List.mem_cons_self
    exact NG.putL G h0 R _ (fun q hq => hR q (List.mem_cons_of_mem _ hq)) (N.put G r1 (h0 r r1 r2))
theorem note1_wid' {S S' : Gs} (h : S'.wid = S.wid) (root : Nat) (fs : List Nat) (l : Keys) (c : List Nat) : note1 root fs S' l c = note1 root fs S l c := by unfold note1 rest; rw [h]
theorem noteL_wid' {S S' : Gs} (h : S'.wid = S.wid) (root : Nat) (fs : List Nat) : ∀ (cs l : Keys), noteL root fs S' l cs = noteL root fs S l cs
  | [], l => rfl
  | c :: cs, l => by
    show noteL root fs S' (note1 root fs S' l c) cs = noteL root fs S (note1 root fs S l c) cs
    rw [note1_wid' h, noteL_wid' h root fs cs]
theorem NG.born {n root t b : Nat} {fs : List Nat} {ws : Wl} (W : WsOk n ws) : ∀ (k : Nat) {S : Gs} {nt : Keys}, FM n root fs ws t b S → NG n root fs S nt → NG n root fs (takeAll ws k S) (noteL root fs S nt (born ws n k S))
  | 0, S, nt, _, N => N
  | k + 1, S, nt, F, N => by
    rw [← bornAll_eq]
    cases h : first ws S with
    | none => rw [born_stop h, takeAll_stop h]; exact N
    | some c =>
      rw [born_go h, takeAll_go h, bornAll_eq]
      obtain ⟨hc, hx, _⟩ := first_some h
      obtain ⟨F2, _⟩ := F.take W hc hx
      obtain ⟨w1, _⟩ := way_lt' W hc
      obtain ⟨es, HM⟩ := F2.g.hom
      have N2 := (N.take W F.g hc).put F2.g w1 fun hr => by
        have h2 := F2.r0 ((take1 ws S c).h (way ws c).1) (Nat.lt_of_le_of_lt (HM.le _ w1) w1) (HM.idem _ w1)
        rw [cls_hom HM w1] at h2
        exact h2 hr
      have N3 := NG.born W k F2 N2
      have e : noteL root fs S nt (cls (take1 ws S c).h n (way ws c).1 :: Mw.born ws n k (take1 ws S c)) = noteL root fs (take1 ws S c) (note1 root fs (take1 ws S c) nt (cls (take1 ws S c).h n (way ws c).1)) (Mw.born ws n k (take1 ws S c)) := rfl
      rw [e]
      exact N3
/-- a growth leaves the rests of the notes -/
theorem NG.grow {n root t b : Nat} {fs : List Nat} {ws : Wl} {S : Gs} {nt : Keys} {x : Int} (G : GB n ws t b S) (N : NG n root fs S nt) : NG n root fs (Mw.grow n S (awk n root fs S) x) nt := by
  refine N.h (fun _ _ _ _ e => e) fun A hA => ?_
  obtain ⟨g1, g2, g3, g4, g5⟩ := N.grp A hA
  obtain ⟨y, hy⟩ := List.exists_mem_of_ne_nil _ g1
  unfold rest
  have e : usedW A (Mw.grow n S (awk n root fs S) x).wid = usedW A S.wid + ((awk n root fs S).map fun r => if inK (cls S.h n r) A = true then x else 0).sum := used_fold A x (awk n root fs S) S.wid
  have e2 : (awk n root fs S).map (fun r => if inK (cls S.h n r) A = true then x else 0) = (awk n root fs S).map fun _ => 0 := List.map_congr_left fun r hr => by
    refine if_neg fun z => ?_
    obtain ⟨⟨k1, k2⟩, k3, k4⟩ := mem_awk.mp hr
    have z := inK_iff.mp z
    have hrA := z r (mem_cls.mpr ⟨k1, rfl⟩)
    have : A = cls S.h n r := sorted_ext g2 (cls_pw _ _ _) fun u => ⟨fun hu => mem_cls.mpr ⟨(g3 u hu).1, (g3 u hu).2 r hrA⟩, fun hu => z u hu⟩
    rw [this] at g5; omega
  have e3 : ∀ l : List Nat, (l.map fun _ => (0 : Int)).sum = 0 := fun l => by
    induction l with
    | nil => rfl
    | cons a l ih => rw [List.map_cons, List.sum_cons, ih]; rfl
  rw [e, e2, e3]; omega
/-- between turns -/
structure NI (n root : Nat) (fs : List Nat) (Q : Gs × Keys) : Prop where
  g : NG n root fs Q.1 Q.2
  tight : ∀ r, r < n → Q.1.h r = r → root ∉ cls Q.1.h n r → ¬ 0 < rest fs Q.1 (cls Q.1.h n r) → cls Q.1.h n r ∈ Q.2
theorem NI.turn {n root t b : Nat} {fs : List Nat} {ws : Wl} {Q : Gs × Keys} (W : WsOk n ws) (hb : ∀ f ∈ fs, f ≤ 10000) (F : FI n root fs ws t b Q.1) (hA : awk n root fs Q.1 ≠ []) (N : NI n root fs Q) : NI n root fs (turnF n root fs ws Q) := by
  obtain ⟨t', b', FG⟩ := F.grown W hb hA
  obtain ⟨S, nt⟩ := Q
  have N1 := N.g.grow (x := spanF n root fs ws S) F.m.g
  have N2 := NG.born W n FG N1
  have rl := reps_len (grow n S (awk n root fs S) (spanF n root fs ws S)).h n
  have FT := (FM.takeAll W FG rl).1
  have hw := (takeAll_time ws n (grow n S (awk n root fs S) (spanF n root fs ws S))).2.2
  have N3 := NG.putL FT.g FT.r0 (reps (takeAll ws n (grow n S (awk n root fs S) (spanF n root fs ws S))).h n) _ (fun r hr => mem_reps'.mp hr) N2
  have e : turnF n root fs ws (S, nt) = (takeAll ws n (grow n S (awk n root fs S) (spanF n root fs ws S)), noteL root fs (takeAll ws n (grow n S (awk n root fs S) (spanF n root fs ws S))) (noteL root fs (grow n S (awk n root fs S) (spanF n root fs ws S)) nt (Mw.born ws n n (grow n S (awk n root fs S) (spanF n root fs ws S)))) ((reps (takeAll ws n (grow n S (awk n root fs S) (spanF n root fs ws S))).h n).map (cls (takeAll ws n (grow n S (awk n root fs S) (spanF n root fs ws S))).h n))) := by
    rw [← noteL_wid' hw root fs (Mw.born ws n n (grow n S (awk n root fs S) (spanF n root fs ws S))) nt]; rfl
  rw [e]
  exact ⟨N3, fun r r1 r2 r3 r4 => noteL_in root fs _ _ _ _ (List.mem_map_of_mem (mem_reps'.mpr ⟨r1, r2⟩)) r3 r4⟩
theorem NI.start {n root : Nat} {fs : List Nat} {ws : Wl} (W : WsOk n ws) : NI n root fs (Mw.start, noteL root fs Mw.start [] ((reps Mw.start.h n).map (cls Mw.start.h n))) := by
  have F := FI.start (root := root) (fs := fs) W
  have N0 : NG n root fs Mw.start [] := ⟨fun A hA => (nomatch hA), fun A hA => (nomatch hA)⟩
  exact ⟨NG.putL F.m.g F.m.r0 _ [] (fun r hr => mem_reps'.mp hr) N0, fun r r1 r2 r3 r4 => noteL_in root fs _ _ _ _ (List.mem_map_of_mem (mem_reps'.mpr ⟨r1, r2⟩)) r3 r4⟩
theorem allF_N {n root : Nat} {fs : List Nat} {ws : Wl} (W : WsOk n ws) (hb : ∀ f ∈ fs, f ≤ 10000) : NI n root fs (allF n root fs ws) :=
  allF_ind (I := NI n root fs) W hb (NI.start W) fun t b Q F hA N => N.turn W hb F hA
/-- once noted, always noted -/
theorem groF_note {n root : Nat} {fs : List Nat} {ws : Wl} : ∀ (k : Nat) (Q : Gs × Keys), ∀ A ∈ Q.2, A ∈ (groF n root fs ws k Q).2
  | 0, Q, A, h => h
  | k + 1, Q, A, h => by
    by_cases hA : awk n root fs Q.1 = []
    · rw [groF_stop hA]; exact h
    · have e : groF n root fs ws (k + 1) Q = groF n root fs ws k (turnF n root fs ws Q) := if_neg hA
      rw [e]
      exact groF_note k _ A (noteL_sub root fs _ _ _ A (noteL_sub root fs _ _ _ A h))
theorem groF_taken {n root : Nat} {fs : List Nat} {ws : Wl} : ∀ (k : Nat) (Q : Gs × Keys), ∀ c ∈ tkn Q.1, c ∈ tkn (groF n root fs ws k Q).1
  | 0, Q, c, h => h
  | k + 1, Q, c, h => by
    by_cases hA : awk n root fs Q.1 = []
    · rw [groF_stop hA]; exact h
    · have e : groF n root fs ws (k + 1) Q = groF n root fs ws k (turnF n root fs ws Q) := if_neg hA
      rw [e]
      exact groF_taken k _ c (take_sub n c (by exact h))
/-- an invariant, with what is to come known -/
theorem groF_ind2 {n root : Nat} {fs : List Nat} {ws : Wl} (W : Wf n ws) (hb : ∀ f ∈ fs, f ≤ 10000) {F : List Nat} {M : Keys} {I : Gs → Prop}
    (hs : ∀ (t b : Nat) (Q : Gs × Keys), FI n root fs ws t b Q.1 → NI n root fs Q → TkOk ws Q.1 → (∀ c ∈ tkn Q.1, c ∈ F) → (∀ A ∈ Q.2, A ∈ M) → awk n root fs Q.1 ≠ [] → I Q.1 → I (turnF n root fs ws Q).1) :
    ∀ (k t b : Nat) (Q : Gs × Keys), FI n root fs ws t b Q.1 → NI n root fs Q → TkOk ws Q.1 → (∀ c ∈ tkn (groF n root fs ws k Q).1, c ∈ F) → (∀ A ∈ (groF n root fs ws k Q).2, A ∈ M) → I Q.1 → I (groF n root fs ws k Q).1
  | 0, t, b, Q, _, _, _, _, _, h => h
  | k + 1, t, b, Q, FF, N, TK, hF, hM, h => by
    by_cases hA : awk n root fs Q.1 = []
    · rw [groF_stop hA]; exact h
    · have e : groF n root fs ws (k + 1) Q = groF n root fs ws k (turnF n root fs ws Q) := if_neg hA
      have i1 : ∀ c ∈ tkn Q.1, c ∈ F := fun c hc => hF c (groF_taken (k + 1) Q c hc)
      have i2 : ∀ A ∈ Q.2, A ∈ M := fun A hA' => hM A (groF_note (k + 1) Q A hA')
      rw [e] at hF hM ⊢
      have Wo := wf_ok W
      obtain ⟨_, t', F2, _⟩ := FF.turn Wo hb hA
      exact groF_ind2 W hb hs k t' (b + 12) (turnF n root fs ws Q) F2 (N.turn Wo hb FF hA) (TkOk.takeAll W n ⟨TK.h, TK.fo, TK.lt⟩) hF hM (hs t b Q FF N TK i1 i2 hA h)
theorem allF_ind2 {n root : Nat} {fs : List Nat} {ws : Wl} (W : Wf n ws) (hb : ∀ f ∈ fs, f ≤ 10000) {I : Gs → Prop} (h0 : I start)
    (hs : ∀ (t b : Nat) (Q : Gs × Keys), FI n root fs ws t b Q.1 → NI n root fs Q → TkOk ws Q.1 → (∀ c ∈ tkn Q.1, c ∈ tkn (allF n root fs ws).1) → (∀ A ∈ Q.2, A ∈ (allF n root fs ws).2) → awk n root fs Q.1 ≠ [] → I Q.1 → I (turnF n root fs ws Q).1) : I (allF n root fs ws).1 :=
  groF_ind2 W hb hs (2 * n) 0 0 _ (FI.start (wf_ok W)) (NI.start (wf_ok W)) (TkOk.start ws) (fun c hc => hc) (fun A hA => hA) h0
/-! ### what the ways carry -/
theorem xl_lackB {n t b : Nat} {ws : Wl} {S : Gs} (W : WsOk n ws) (G : GB n ws t b S) {c : Nat} (hc : c < ws.length) (hx : crosses ws S c = true) : xl ws c S.wid = ((way ws c).2.2 : Int) * 4096 - lack ws S c := by
  obtain ⟨w1, w2, _⟩ := W.ok c hc
  have e := xl_eq (of_decide_eq_true hx) (wid := S.wid) fun kw q x hx y hy => ((G.key kw q).1 x hx).2 y hy
  rw [e, ← G.sum _ (Nat.lt_trans w1 w2), ← G.sum _ w2]
  unfold lack; omega
theorem FullOk.takeAllB {n t b : Nat} {ws : Wl} (W : WsOk n ws) : ∀ (k : Nat) {S : Gs}, GB n ws t b S → FullOk n ws S → FullOk n ws (Mw.takeAll ws k S)
  | 0, S, _, F => F
  | k + 1, S, G, F => by
    cases e : first ws S with
    | none => rw [takeAll_stop e]; exact F
    | some c =>
      rw [takeAll_go e]
      obtain ⟨hc, hx, hl⟩ := first_some e
      refine FullOk.takeAllB W k (G.take W hc hx).1 ⟨F.le, fun x hx2 => ?_⟩
      have e1 : tkn (take1 ws S c) = tkn S ++ [c] := by unfold tkn take1; rw [List.map_append]; rfl
      rw [e1] at hx2
      rcases List.mem_append.mp hx2 with q | q
      · exact F.eq x q
      · rw [List.mem_singleton.mp q]
        show xl ws c S.wid = _
        rw [xl_lackB W G hc hx]
        have h1 := G.lk c hc hx
        have h2 := hl
        omega
theorem full_allF {n root : Nat} {fs : List Nat} {ws : Wl} (W : Wf n ws) (hb : ∀ f ∈ fs, f ≤ 10000) : FullOk n ws (allF n root fs ws).1 := by
  have Wo := wf_ok W
  refine allF_ind2 (root := root) (fs := fs) (I := FullOk n ws) W hb ?_ ?_
  · refine ⟨fun c hc => ?_, fun c hc => nomatch hc⟩
    show xl ws c [] ≤ _
    unfold xl; simp; omega
  · intro t b Q FF N T _ _ hA F
    obtain ⟨S, nt⟩ := Q
    obtain ⟨t', b', FG⟩ := FF.grown Wo hb hA
    have gg := FG.g
    refine FullOk.takeAllB Wo n gg ⟨fun c hc => ?_, fun c hc => ?_⟩
    · cases hx : crosses ws S c with
      | true =>
        rw [xl_lackB Wo gg hc (show crosses ws (grow n S (awk n root fs S) (spanF n root fs ws S)) c = true from hx)]
        have := gg.lk c hc hx
        omega
      | false =>
        obtain ⟨h1, h2⟩ := way_lt W hc
        have e : S.h (way ws c).1 = S.h (way ws c).2.1 := Classical.byContradiction fun z => by rw [show crosses ws S c = true from decide_eq_true z] at hx; cases hx
        show xl ws c ((awk n root fs S).foldl (fun w r => addW w (cls S.h n r) (spanF n root fs ws S)) S.wid) ≤ _
        rw [xl_fold h1 h2 _ _ awk_ok]
        have : ((awk n root fs S).map fun r => b2n (cut1 ws S.h r c)).sum = 0 := by
          rw [← sum_zero (awk n root fs S)]
          refine sum_eq_sum fun r _ => ?_
          rw [cut_iff.mpr (by rw [e])]; rfl
        rw [this]
        have := F.le c hc
        simp; exact this
    · have hcl := T.lt c hc
      obtain ⟨h1, h2⟩ := way_lt W hcl
      have HM := hom_ok W (tkn S) T.lt
      have th : S.h = hom ws (tkn S) := T.h
      have e : S.h (way ws c).1 = S.h (way ws c).2.1 := by rw [th]; exact (HM.iff _ _ h1 h2).mpr (edg_in hc)
      show xl ws c ((awk n root fs S).foldl (fun w r => addW w (cls S.h n r) (spanF n root fs ws S)) S.wid) = _
      rw [xl_fold h1 h2 _ _ awk_ok]
      have : ((awk n root fs S).map fun r => b2n (cut1 ws S.h r c)).sum = 0 := by
        rw [← sum_zero (awk n root fs S)]
        refine sum_eq_sum fun r _ => ?_
        rw [cut_iff.mpr (by rw [e])]; rfl
      rw [this]
      have := F.eq c hc
      simp; exact this
end Mw

set_option Elab.async false
set_option linter.all false
set_option maxRecDepth 100000
set_option maxHeartbeats 4000000
namespace Mw
open PySem PySem.Spec PyProof.Rows L2 GE
/-! ### what the kept ways reach -/
theorem ends_cases (ws : Wl) (g : List Nat) (c : Nat) : (ends ws g c = 0 ∧ (way ws c).1 ∉ g ∧ (way ws c).2.1 ∉ g) ∨ (ends ws g c = 2 ∧ (way ws c).1 ∈ g ∧ (way ws c).2.1 ∈ g) ∨ (ends ws g c = 1 ∧ ((way ws c).1 ∈ g ∧ (way ws c).2.1 ∉ g ∨ (way ws c).1 ∉ g ∧ (way ws c).2.1 ∈ g)) := by
  unfold ends
  by_cases h1 : (way ws c).1 ∈ g <;> by_cases h2 : (way ws c).2.1 ∈ g <;> simp [h1, h2]
theorem mem_edg' {ws : Wl} {cs : List Nat} {a b : Nat} : (a, b) ∈ edg ws cs ↔ ∃ c ∈ cs, a = (way ws c).1 ∧ b = (way ws c).2.1 := by
  rw [mem_edg]
  refine exists_congr fun c => and_congr_right fun _ => ?_
  rw [Prod.mk.injEq]; exact Iff.rfl
theorem cut_rch {ws : Wl} {L g : List Nat} {root : Nat} (hr : root ∉ g) (h1 : (leads ws L g).length = 1) (x : Nat) : Cn (edg ws (cutS ws L g)) root x ↔ Cn (edg ws L) root x ∧ x ∉ g := by
  constructor
  · intro h
    refine ⟨h.mono (edg_mono fun c hc => (List.mem_filter.mp hc).1), fun z => ?_⟩
    have := h.inv (P := fun y => y ∈ g) fun e he => by
      obtain ⟨c, hc, rfl⟩ := mem_edg.mp he
      have h0 := of_decide_eq_true (List.mem_filter.mp hc).2
      rcases ends_cases ws g c with ⟨_, a1, a2⟩ | ⟨a, _⟩ | ⟨a, _⟩
      · exact ⟨fun y => absurd y a1, fun y => absurd y a2⟩
      · rw [h0] at a; cases a
      · rw [h0] at a; cases a
    exact hr (this.mpr z)
  · rintro ⟨h, hx⟩
    obtain ⟨c0, hc0⟩ : ∃ c0, leads ws L g = [c0] := by
      match q : leads ws L g, h1 with
      | [c], _ => exact ⟨c, rfl⟩
    let v := if (way ws c0).1 ∈ g then (way ws c0).2.1 else (way ws c0).1
    let f := fun y => if y ∈ g then v else y
    have hin : ∀ c ∈ L, Cn (edg ws (cutS ws L g)) (f (way ws c).1) (f (way ws c).2.1) := fun c hc => by
      rcases ends_cases ws g c with ⟨a, a1, a2⟩ | ⟨a, a1, a2⟩ | ⟨a, a1⟩
      · have e1 : f (way ws c).1 = (way ws c).1 := if_neg a1
        have e2 : f (way ws c).2.1 = (way ws c).2.1 := if_neg a2
        rw [e1, e2]
        exact .fwd (.refl _) (mem_edg'.mpr ⟨c, List.mem_filter.mpr ⟨hc, decide_eq_true a⟩, rfl, rfl⟩)
      · have e1 : f (way ws c).1 = v := if_pos a1
        have e2 : f (way ws c).2.1 = v := if_pos a2
        rw [e1, e2]; exact .refl _
      · have hcl : c ∈ leads ws L g := List.mem_filter.mpr ⟨hc, decide_eq_true a⟩
        rw [hc0] at hcl
        have ec := List.mem_singleton.mp hcl
        subst ec
        rcases a1 with ⟨a1, a2⟩ | ⟨a1, a2⟩
        · have e1 : f (way ws c).1 = v := if_pos a1
          have e2 : f (way ws c).2.1 = (way ws c).2.1 := if_neg a2
          have e3 : v = (way ws c).2.1 := if_pos a1
          rw [e1, e2, e3]; exact .refl _
        · have e1 : f (way ws c).1 = (way ws c).1 := if_neg a1
          have e2 : f (way ws c).2.1 = v := if_pos a2
          have e3 : v = (way ws c).1 := if_neg a1
          rw [e1, e2, e3]; exact .refl _
    have key : ∀ y, Cn (edg ws L) root y → Cn (edg ws (cutS ws L g)) (f root) (f y) := fun y hy => by
      induction hy with
      | refl => exact .refl _
      | fwd _ he ih =>
        obtain ⟨c, hc, e1, e2⟩ := mem_edg'.mp he
        rw [e1] at ih; rw [e2]
        exact ih.trans (hin c hc)
      | bwd _ he ih =>
        obtain ⟨c, hc, e1, e2⟩ := mem_edg'.mp he
        rw [e2] at ih; rw [e1]
        exact ih.trans (hin c hc).symm
    have := key x h
    rw [show f root = root from if_neg hr, show f x = x from if_neg hx] at this
    exact this
theorem cutOff_rch {ws : Wl} {notes : Keys} {root : Nat} (hn : ∀ A ∈ notes, root ∉ A) : ∀ (j : Nat) (L : List Nat), (∀ c ∈ L, Cn (edg ws L) root (way ws c).1) →
    ∃ P : Keys, (∀ g ∈ P, g ∈ notes) ∧ (∀ x, Cn (edg ws (cutOff ws notes j L)) root x ↔ Cn (edg ws L) root x ∧ ∀ g ∈ P, x ∉ g) ∧ ∀ c ∈ cutOff ws notes j L, Cn (edg ws (cutOff ws notes j L)) root (way ws c).1
  | 0, L, h => ⟨[], (fun g hg => nomatch hg), fun x => ⟨fun z => ⟨z, fun g hg => nomatch hg⟩, fun z => z.1⟩, h⟩
  | j + 1, L, h => by
    cases e : fstCut ws notes L with
    | none => rw [cutOff_stop e]; exact ⟨[], (fun g hg => nomatch hg), fun x => ⟨fun z => ⟨z, fun g hg => nomatch hg⟩, fun z => z.1⟩, h⟩
    | some g =>
      rw [cutOff_go e]
      have hg := List.mem_of_find?_eq_some e
      have h1 : (leads ws L g).length = 1 := of_decide_eq_true (List.find?_some (p := fun g => decide ((leads ws L g).length = 1)) (l := notes) e)
      have hc := cut_rch (ws := ws) (L := L) (hn g hg) h1
      obtain ⟨P, p1, p2, p3⟩ := cutOff_rch hn j (cutS ws L g) fun c hcc => (hc _).mpr ⟨h c (List.mem_filter.mp hcc).1, by
        have h0 := of_decide_eq_true (List.mem_filter.mp hcc).2
        rcases ends_cases ws g c with ⟨_, a1, a2⟩ | ⟨a, _⟩ | ⟨a, _⟩
        · exact a1
        · rw [h0] at a; cases a
        · rw [h0] at a; cases a⟩
      refine ⟨g :: P, fun A hA => ?_, fun x => ?_, p3⟩
      · rcases List.mem_cons.mp hA with z | z
        · rw [z]; exact hg
        · exact p1 A z
      · rw [p2 x, hc x]
        constructor
        · rintro ⟨⟨a, b⟩, c⟩
          exact ⟨a, fun A hA => by
            rcases List.mem_cons.mp hA with z | z
            · rw [z]; exact b
            · exact c A z⟩
        · rintro ⟨a, b⟩
          exact ⟨⟨a, b g List.mem_cons_self⟩, fun A hA => b A (List.mem_cons_of_mem _ hA)⟩
theorem kept0_rch {n root : Nat} {ws : Wl} {S : Gs} (W : Wf n ws) (T : TkOk ws S) (rn : root < n) : (∀ x, x < n → (Cn (edg ws (kept0 n root ws S)) root x ↔ S.h x = S.h root)) ∧ ∀ c ∈ kept0 n root ws S, Cn (edg ws (kept0 n root ws S)) root (way ws c).1 := by
  have HM := hom_ok W (tkn S) T.lt
  have hh : ∀ x y, x < n → y < n → (S.h x = S.h y ↔ Cn (edg ws (tkn S)) x y) := fun x y hx hy => by rw [T.h]; exact HM.iff x y hx hy
  have hin : ∀ c ∈ tkn S, (S.h (way ws c).1 = S.h root ∨ S.h (way ws c).2.1 = S.h root) → c ∈ kept0 n root ws S := fun c hc hor => by
    obtain ⟨w1, w2⟩ := way_lt W (T.lt c hc)
    have e := (hh _ _ w1 w2).mpr (edg_in hc)
    have e1 : S.h (way ws c).1 = S.h root := by
      rcases hor with z | z
      · exact z
      · exact e.trans z
    refine List.mem_filter.mpr ⟨hc, decide_eq_true ?_⟩
    have m1 : (way ws c).1 ∈ cls S.h n root := mem_cls.mpr ⟨w1, e1⟩
    have m2 : (way ws c).2.1 ∈ cls S.h n root := mem_cls.mpr ⟨w2, e.symm.trans e1⟩
    unfold ends; rw [if_pos m1, if_pos m2]
  have key : ∀ y, Cn (edg ws (tkn S)) root y → Cn (edg ws (kept0 n root ws S)) root y ∧ S.h y = S.h root := fun y hy => by
    induction hy with
    | refl => exact ⟨.refl _, rfl⟩
    | fwd _ he ih =>
      obtain ⟨c, hc, e1, e2⟩ := mem_edg'.mp he
      obtain ⟨w1, w2⟩ := way_lt W (T.lt c hc)
      subst e1 e2
      have e := (hh _ _ w1 w2).mpr (edg_in hc)
      have hk := hin c hc (.inl ih.2)
      exact ⟨ih.1.fwd (mem_edg'.mpr ⟨c, hk, rfl, rfl⟩), e.symm.trans ih.2⟩
    | bwd _ he ih =>
      obtain ⟨c, hc, e1, e2⟩ := mem_edg'.mp he
      obtain ⟨w1, w2⟩ := way_lt W (T.lt c hc)
      subst e1 e2
      have e := (hh _ _ w1 w2).mpr (edg_in hc)
      have hk := hin c hc (.inr ih.2)
      exact ⟨ih.1.bwd (mem_edg'.mpr ⟨c, hk, rfl, rfl⟩), e.trans ih.2⟩
  refine ⟨fun x hx => ⟨fun z => ?_, fun z => ?_⟩, fun c hc => ?_⟩
  · exact ((hh root x rn hx).mpr (z.mono (edg_mono fun c hc => (List.mem_filter.mp hc).1))).symm
  · exact (key x ((hh root x rn hx).mp z.symm)).1
  · obtain ⟨h1, h2⟩ := List.mem_filter.mp hc
    have h2 := of_decide_eq_true h2
    obtain ⟨w1, w2⟩ := way_lt W (T.lt c h1)
    rcases ends_cases ws (cls S.h n root) c with ⟨a, _⟩ | ⟨_, a1, _⟩ | ⟨a, _⟩
    · rw [h2] at a; cases a
    · exact (key _ ((hh root _ rn w1).mp (mem_cls.mp a1).2.symm)).1
    · rw [h2] at a; cases a
/-! ### sums over places and widths, by what lies within -/
def finP (n : Nat) (fs : List Nat) (p : Nat → Bool) : Int := ((List.range n).map fun x => if p x = true then ((fs.getD x 0 : Nat) : Int) else 0).sum
def usdP (p : Nat → Bool) (wid : Wid) : Int := (wid.map fun kw => if kw.1.all p = true then kw.2 else 0).sum
theorem finP_cls {n : Nat} {fs A : List Nat} (hA : A.Pairwise (· < ·)) (hn : ∀ x ∈ A, x < n) : fineS fs A = finP n fs fun x => decide (x ∈ A) := by
  refine fineS_cls fs A n (sorted_ext hA ((range_pw n).filter _) fun x => ?_)
  rw [List.mem_filter, List.mem_range, decide_eq_true_eq]
  exact ⟨fun z => ⟨hn x z, z⟩, fun z => z.2⟩
theorem usdP_used (A : List Nat) (wid : Wid) : usedW A wid = usdP (fun x => decide (x ∈ A)) wid := filter_sumI (fun kw : List Nat × Int => inK kw.1 A) (·.2) wid
theorem finP_congr {n : Nat} {fs : List Nat} {p q : Nat → Bool} (h : ∀ x, x < n → p x = q x) : finP n fs p = finP n fs q := by
  unfold finP
  congr 1
  exact List.map_congr_left fun x hx => by rw [h x (List.mem_range.mp hx)]
theorem usdP_congr {n : Nat} {p q : Nat → Bool} {wid : Wid} (hk : ∀ kw ∈ wid, ∀ x ∈ kw.1, x < n) (h : ∀ x, x < n → p x = q x) : usdP p wid = usdP q wid := by
  unfold usdP
  congr 1
  refine List.map_congr_left fun kw hkw => ?_
  have : kw.1.all p = kw.1.all q := by
    rw [Bool.eq_iff_iff, List.all_eq_true, List.all_eq_true]
    exact ⟨fun z x hx => by rw [← h x (hk kw hkw x hx)]; exact z x hx, fun z x hx => by rw [h x (hk kw hkw x hx)]; exact z x hx⟩
  rw [this]
theorem finP_or {n : Nat} {fs : List Nat} {p q : Nat → Bool} (h : ∀ x, x < n → ¬ (p x = true ∧ q x = true)) : finP n fs (fun x => p x || q x) = finP n fs p + finP n fs q := by
  unfold finP
  rw [← sum_addI]
  congr 1
  refine List.map_congr_left fun x hx => ?_
  have := h x (List.mem_range.mp hx)
  cases hp : p x <;> cases hq : q x <;> simp_all
theorem sum_le_sumI {α : Type} {f g : α → Int} : ∀ {l : List α}, (∀ x ∈ l, f x ≤ g x) → (l.map f).sum ≤ (l.map g).sum
  | [], _ => Int.le_refl _
  | x :: l, h => by
    have h1 := h x List.mem_cons_self
    have h2 := sum_le_sumI (l := l) fun y hy => h y (List.mem_cons_of_mem _ hy)
    simp only [List.map_cons, List.sum_cons]; omega
theorem usdP_or {p q : Nat → Bool} {wid : Wid} (hk : ∀ kw ∈ wid, kw.1 ≠ [] ∧ 0 < kw.2) (h : ∀ kw ∈ wid, ∀ x ∈ kw.1, ¬ (p x = true ∧ q x = true)) : usdP p wid + usdP q wid ≤ usdP (fun x => p x || q x) wid := by
  unfold usdP
  rw [← sum_addI]
  refine sum_le_sumI fun kw hkw => ?_
  obtain ⟨k1, k2⟩ := hk kw hkw
  obtain ⟨y, hy⟩ := List.exists_mem_of_ne_nil _ k1
  by_cases hp : kw.1.all p = true
  · have hq : ¬ kw.1.all q = true := fun z => h kw hkw y hy ⟨List.all_eq_true.mp hp y hy, List.all_eq_true.mp z y hy⟩
    have ho : kw.1.all (fun x => p x || q x) = true := List.all_eq_true.mpr fun x hx => by rw [List.all_eq_true.mp hp x hx]; rfl
    rw [if_pos hp, if_neg hq, if_pos ho]; omega
  · by_cases hq : kw.1.all q = true
    · have ho : kw.1.all (fun x => p x || q x) = true := List.all_eq_true.mpr fun x hx => by rw [List.all_eq_true.mp hq x hx, Bool.or_true]
      rw [if_neg hp, if_pos hq, if_pos ho]; omega
    · rw [if_neg hp, if_neg hq]
      split <;> omega
/-- a union of nested or disjoint sets whose rests are used up -/
theorem union_used {n : Nat} {fs : List Nat} {wid : Wid} (hk : ∀ kw ∈ wid, kw.1 ≠ [] ∧ 0 < kw.2 ∧ ∀ x ∈ kw.1, x < n) : ∀ (m : Nat) (U : Keys), U.length ≤ m → (∀ A ∈ U, ∀ B ∈ U, Nst A B) → (∀ A ∈ U, A.Pairwise (· < ·) ∧ (∀ x ∈ A, x < n) ∧ fineS fs A * 4096 - usedW A wid = 0) →
    finP n fs (fun x => U.any fun A => decide (x ∈ A)) * 4096 ≤ usdP (fun x => U.any fun A => decide (x ∈ A)) wid
  | 0, U, hl, _, _ => by
    have e : U = [] := List.eq_nil_of_length_eq_zero (by omega)
    subst e
    have e1 : finP n fs (fun x => ([] : Keys).any fun A => decide (x ∈ A)) = 0 := by
      unfold finP
      have : ∀ l : List Nat, (l.map fun x => if ([] : Keys).any (fun A => decide (x ∈ A)) = true then ((fs.getD x 0 : Nat) : Int) else 0).sum = 0 := fun l => by
        induction l with
        | nil => rfl
        | cons a l ih => rw [List.map_cons, List.sum_cons, ih]; rfl
      exact this _
    rw [e1]
    have : 0 ≤ usdP (fun x => ([] : Keys).any fun A => decide (x ∈ A)) wid := sum_pos0 fun y hy => by
      obtain ⟨kw, h1, rfl⟩ := List.mem_map.mp hy
      have := (hk kw h1).2.1
      split <;> omega
    omega
  | m + 1, [], _, lam, hA => union_used hk m [] (Nat.zero_le _) lam hA
  | m + 1, A :: U, hl, lam, hA => by
    rw [List.length_cons] at hl
    by_cases hsub : ∃ B ∈ U, ∀ x ∈ A, x ∈ B
    · obtain ⟨B, hB, hAB⟩ := hsub
      have e : ∀ x, ((A :: U).any fun A => decide (x ∈ A)) = U.any fun A => decide (x ∈ A) := fun x => by
        rw [List.any_cons]
        by_cases q : x ∈ A
        · rw [List.any_eq_true.mpr ⟨B, hB, decide_eq_true (hAB x q)⟩, Bool.or_true]
        · rw [decide_eq_false q, Bool.false_or]
      rw [finP_congr fun x _ => e x, usdP_congr (fun kw hkw => (hk kw hkw).2.2) fun x _ => e x]
      exact union_used hk m U (by omega) (fun C hC D hD => lam C (List.mem_cons_of_mem _ hC) D (List.mem_cons_of_mem _ hD)) fun C hC => hA C (List.mem_cons_of_mem _ hC)
    · let U' := U.filter fun B => B.all fun x => decide (x ∉ A)
      have hU' : ∀ B, B ∈ U' ↔ B ∈ U ∧ ∀ x ∈ B, x ∉ A := fun B => by
        show B ∈ U.filter _ ↔ _
        rw [List.mem_filter, List.all_eq_true]
        exact ⟨fun z => ⟨z.1, fun x hx => of_decide_eq_true (z.2 x hx)⟩, fun z => ⟨z.1, fun x hx => decide_eq_true (z.2 x hx)⟩⟩
      have e : ∀ x, ((A :: U).any fun A => decide (x ∈ A)) = (decide (x ∈ A) || U'.any fun A => decide (x ∈ A)) := fun x => by
        rw [List.any_cons]
        by_cases q : x ∈ A
        · rw [decide_eq_true q]; rfl
        · rw [decide_eq_false q, Bool.false_or, Bool.false_or, Bool.eq_iff_iff, List.any_eq_true, List.any_eq_true]
          constructor
          · rintro ⟨B, hB, hx⟩
            have hx := of_decide_eq_true hx
            refine ⟨B, (hU' B).mpr ⟨hB, ?_⟩, decide_eq_true hx⟩
            rcases lam A List.mem_cons_self B (List.mem_cons_of_mem _ hB) with z | z | z
            · exact absurd ⟨B, hB, z⟩ hsub
            · exact absurd (z x hx) q
            · exact fun y hy hya => z y hya hy
          · rintro ⟨B, hB, hx⟩
            exact ⟨B, ((hU' B).mp hB).1, hx⟩
      have hex : ∀ x, ¬ (decide (x ∈ A) = true ∧ (U'.any fun A => decide (x ∈ A)) = true) := fun x ⟨z1, z2⟩ => by
        obtain ⟨B, hB, hx⟩ := List.any_eq_true.mp z2
        exact ((hU' B).mp hB).2 x (of_decide_eq_true hx) (of_decide_eq_true z1)
      rw [finP_congr fun x _ => e x, usdP_congr (fun kw hkw => (hk kw hkw).2.2) fun x _ => e x]
      rw [finP_or fun x _ => hex x]
      have h1 := usdP_or (wid := wid) (p := fun x => decide (x ∈ A)) (q := fun x => U'.any fun A => decide (x ∈ A)) (fun kw hkw => ⟨(hk kw hkw).1, (hk kw hkw).2.1⟩) fun kw _ x _ => hex x
      obtain ⟨a1, a2, a3⟩ := hA A List.mem_cons_self
      rw [finP_cls a1 a2, usdP_used] at a3
      have hl' : U'.length ≤ m := by
        have : U'.length ≤ U.length := List.length_filter_le _ _
        omega
      have ih := union_used hk m U' hl' (fun C hC D hD => lam C (List.mem_cons_of_mem _ ((hU' C).mp hC).1) D (List.mem_cons_of_mem _ ((hU' D).mp hD).1)) fun C hC => hA C (List.mem_cons_of_mem _ ((hU' C).mp hC).1)
      omega
end Mw

set_option Elab.async false
set_option linter.all false
set_option maxRecDepth 100000
set_option maxHeartbeats 4000000
namespace Mw
open PySem PySem.Spec PyProof.Rows L2 GE
/-! ### the awake groups and the kept ways -/
theorem countF {n root : Nat} {ws : Wl} {F G K : List Nat} {act : Nat → Bool} (W : Wf n ws) (FO : Fo ws F) (hF : ∀ c ∈ F, c < ws.length) (hG : ∀ c ∈ G, c ∈ F) (hK : ∀ c ∈ K, c ∈ F) (nd : K.Nodup) (rn : root < n) (hact : act (hom ws G root) = false)
    (h1 : ∀ r ∈ reps (hom ws G) n, r ≠ hom ws G root → act r = false → dgr ws (hom ws G) K r ≠ 1) :
    (((reps (hom ws G) n).filter act).map (dgr ws (hom ws G) K)).sum ≤ 2 * (((reps (hom ws G) n).filter act).filter fun r => !decide (dgr ws (hom ws G) K r = 0)).length := by
  have hCl : ∀ c ∈ K, c < ws.length := fun c hc => hF c (hK c hc)
  have hGl : ∀ c ∈ G, c < ws.length := fun c hc => hF c (hG c hc)
  have HM := hom_ok W G hGl
  generalize hh : hom ws G = h at *
  have wl : ∀ c ∈ K, (way ws c).1 < n ∧ (way ws c).2.1 < n := fun c hc => way_lt W (hCl c hc)
  have s1 : ((reps h n).map (dgr ws h K)).sum = 2 * (K.filter (crs ws h)).length := by
    have e1 : (reps h n).map (dgr ws h K) = (reps h n).map fun r => (K.map fun c => b2n (cut1 ws h r c)).sum := List.map_congr_left fun r _ => filter_sum _ _
    rw [e1, sum_swap (fun r c => b2n (cut1 ws h r c)) K (reps h n), filter_sum]
    have e2 : (K.map fun c => ((reps h n).map fun r => b2n (cut1 ws h r c)).sum).sum = (K.map fun c => b2n (crs ws h c) + b2n (crs ws h c)).sum := sum_eq_sum fun c hc => by
      rw [cut_sum HM (wl c hc).1 (wl c hc).2]; unfold b2n; split <;> rfl
    rw [e2, sum_add]; omega
  have s4 := sum_filter2 (dgr ws h K) act (reps h n)
  by_cases hE0 : K.filter (crs ws h) = []
  · rw [hE0] at s1
    simp only [List.length_nil] at s1
    omega
  obtain ⟨c0, hc0E⟩ := List.exists_mem_of_ne_nil _ hE0
  obtain ⟨hc0C, hc0x⟩ := List.mem_filter.mp hc0E
  have hEnd : (K.filter (crs ws h)).Nodup := nd.filter _
  have hEm : ∀ c ∈ K.filter (crs ws h), c ∈ F ∧ c ∉ G := fun c hc => by
    obtain ⟨h1, h2⟩ := List.mem_filter.mp hc
    refine ⟨hK c h1, fun z => ?_⟩
    have := (HM.iff _ _ (wl c h1).1 (wl c h1).2).mpr (edg_in z)
    exact of_decide_eq_true h2 this
  have s2 := reps_many W FO hF hG _ hEnd hEm
  rw [hh] at s2
  have hlt : ∀ x ∈ G ++ K.filter (crs ws h), x < ws.length := fun x hx => by
    rcases List.mem_append.mp hx with z | z
    · exact hGl x z
    · exact hF x (hEm x z).1
  have HE := hom_ok W (G ++ K.filter (crs ws h)) hlt
  have hZ : ∀ r ∈ (reps h n).filter (fun r => decide (dgr ws h K r = 0)), hom ws (G ++ K.filter (crs ws h)) r = r ∧ ∀ x, x < n → (hom ws (G ++ K.filter (crs ws h)) x = r → h x = r) := fun r hr => by
    obtain ⟨h1, h2⟩ := List.mem_filter.mp hr
    have h2 := of_decide_eq_true h2
    obtain ⟨rn, rr⟩ := mem_reps'.mp h1
    have hno : ∀ c ∈ G ++ K.filter (crs ws h), cut1 ws h r c = false := fun c hc => by
      rcases List.mem_append.mp hc with z | z
      · obtain ⟨w1, w2⟩ := way_lt W (hGl c z)
        have := (HM.iff _ _ w1 w2).mpr (edg_in z)
        have this : h (way ws c).1 = h (way ws c).2.1 := this
        exact cut_iff.mpr (by rw [this])
      · cases q : cut1 ws h r c with
        | false => rfl
        | true =>
          have : c ∈ K.filter (cut1 ws h r) := List.mem_filter.mpr ⟨(List.mem_filter.mp z).1, q⟩
          rw [List.eq_nil_of_length_eq_zero (show (K.filter (cut1 ws h r)).length = 0 from h2)] at this
          cases this
    have conn : ∀ x y, Cn (edg ws (G ++ K.filter (crs ws h))) x y → (h x = r ↔ h y = r) := fun x y z => cut_inv hno z
    have hr' : hom ws (G ++ K.filter (crs ws h)) r < n := Nat.lt_of_le_of_lt (HE.le r rn) rn
    have c1 := (HE.iff _ _ hr' rn).mp (HE.idem r rn)
    have c2 := (conn _ _ c1).mpr rr
    have c3 := HM.le _ hr'
    have c4 := HE.le r rn
    refine ⟨by omega, fun x hx e => ?_⟩
    have e2 : hom ws (G ++ K.filter (crs ws h)) x = hom ws (G ++ K.filter (crs ws h)) r := by rw [e]; omega
    exact (conn _ _ ((HE.iff _ _ hx rn).mp e2)).mpr rr
  have a0 := (wl c0 hc0C).1
  have s3 : ((reps h n).filter (fun r => decide (dgr ws h K r = 0))).length + 1 ≤ (reps (hom ws (G ++ K.filter (crs ws h))) n).length := by
    have : ((reps h n).filter (fun r => decide (dgr ws h K r = 0)) ++ [hom ws (G ++ K.filter (crs ws h)) (way ws c0).1]).length ≤ (reps (hom ws (G ++ K.filter (crs ws h))) n).length := by
      refine sub_len ?_ fun x hx => ?_
      · rw [List.nodup_append]
        refine ⟨(reps_nodup h n).filter _, List.nodup_cons.mpr ⟨(fun h => nomatch h), List.nodup_nil⟩, fun x hx y hy e => ?_⟩
        have e2 := List.mem_singleton.mp hy
        subst e
        have h3 := (hZ x hx).2 _ a0 e2.symm
        have h4 := of_decide_eq_true (List.mem_filter.mp hx).2
        have : c0 ∈ K.filter (cut1 ws h x) := List.mem_filter.mpr ⟨hc0C, by
          cases q : cut1 ws h x c0 with
          | true => rfl
          | false =>
            have := (cut_iff.mp q).mp h3
            exact absurd (h3.trans this.symm) (of_decide_eq_true hc0x)⟩
        rw [List.eq_nil_of_length_eq_zero (show (K.filter (cut1 ws h x)).length = 0 from h4)] at this
        cases this
      · rcases List.mem_append.mp hx with z | z
        · obtain ⟨h1, _⟩ := List.mem_filter.mp z
          exact mem_reps'.mpr ⟨(mem_reps'.mp h1).1, (hZ x z).1⟩
        · rw [List.mem_singleton.mp z]
          exact mem_reps'.mpr ⟨Nat.lt_of_le_of_lt (HE.le _ a0) a0, HE.idem _ a0⟩
    rw [List.length_append, List.length_singleton] at this
    exact this
  have s5 := len_filter2 act (reps h n)
  have s6 := len_filter2 (fun r => decide (dgr ws h K r = 0)) ((reps h n).filter fun r => !act r)
  have s6' := len_filter2 (fun r => decide (dgr ws h K r = 0)) ((reps h n).filter act)
  have s7 : ((reps h n).filter (fun r => decide (dgr ws h K r = 0))).length = (((reps h n).filter act).filter (fun r => decide (dgr ws h K r = 0))).length + (((reps h n).filter fun r => !act r).filter (fun r => decide (dgr ws h K r = 0))).length := by
    have := len_filter2 act ((reps h n).filter (fun r => decide (dgr ws h K r = 0)))
    rw [List.filter_filter, List.filter_filter] at this
    rw [List.filter_filter, List.filter_filter]
    have e1 : (reps h n).filter (fun a => act a && decide (dgr ws h K a = 0)) = (reps h n).filter fun a => decide (dgr ws h K a = 0) && act a := List.filter_congr fun x _ => Bool.and_comm _ _
    have e2 : (reps h n).filter (fun a => (!act a) && decide (dgr ws h K a = 0)) = (reps h n).filter fun a => decide (dgr ws h K a = 0) && !act a := List.filter_congr fun x _ => Bool.and_comm _ _
    rw [e1, e2] at this
    exact this
  have hrr : hom ws G root = h root := by rw [hh]
  have hmr : h root ∈ (reps h n).filter fun r => !act r := List.mem_filter.mpr ⟨mem_reps'.mpr ⟨Nat.lt_of_le_of_lt (HM.le _ rn) rn, HM.idem _ rn⟩, by rw [hact]; rfl⟩
  have s8 : 2 * (((reps h n).filter fun r => !act r).filter (fun r => !decide (dgr ws h K r = 0))).length ≤ (((reps h n).filter fun r => !act r).map (dgr ws h K)).sum + 1 := by
    rw [filter_sum]
    have hp := sum_pick ((reps_nodup h n).filter fun r => !act r) hmr
    have : ∀ l : List Nat, (∀ r ∈ l, r = h root ∨ dgr ws h K r ≠ 1) → 2 * (l.map fun x => b2n (!decide (dgr ws h K x = 0))).sum ≤ (l.map (dgr ws h K)).sum + (l.map fun r => b2n (decide (h root = r))).sum := by
      intro l
      induction l with
      | nil => intro _; exact Nat.le_refl _
      | cons x l ih =>
        intro hl
        have h1 := ih fun r hr => hl r (List.mem_cons_of_mem _ hr)
        have h2 := hl x List.mem_cons_self
        simp only [List.map_cons, List.sum_cons]
        have h3 : 2 * b2n (!decide (dgr ws h K x = 0)) ≤ dgr ws h K x + b2n (decide (h root = x)) := by
          by_cases q : dgr ws h K x = 0
          · rw [q]; exact Nat.zero_le _
          · have e : b2n (!decide (dgr ws h K x = 0)) = 1 := by unfold b2n; rw [decide_eq_false q]; rfl
            rcases h2 with z | z
            · have e2 : b2n (decide (h root = x)) = 1 := by unfold b2n; rw [decide_eq_true z.symm]; rfl
              omega
            · omega
        omega
    have h9 := this ((reps h n).filter fun r => !act r) fun r hr => by
      obtain ⟨q1, q2⟩ := List.mem_filter.mp hr
      by_cases e : r = h root
      · exact .inl e
      · exact .inr (h1 r q1 e (by simpa using q2))
    omega
  omega
theorem leads_dgr {n : Nat} {ws : Wl} {h : Nat → Nat} {K : List Nat} {r : Nat} (rr : h r = r) (hw : ∀ c ∈ K, (way ws c).1 < n ∧ (way ws c).2.1 < n) : leads ws K (cls h n r) = K.filter (cut1 ws h r) := by
  unfold leads
  refine List.filter_congr fun c hc => ?_
  obtain ⟨w1, w2⟩ := hw c hc
  have m1 : (way ws c).1 ∈ cls h n r ↔ h (way ws c).1 = r := by rw [mem_cls, rr]; exact ⟨fun z => z.2, fun z => ⟨w1, z⟩⟩
  have m2 : (way ws c).2.1 ∈ cls h n r ↔ h (way ws c).2.1 = r := by rw [mem_cls, rr]; exact ⟨fun z => z.2, fun z => ⟨w2, z⟩⟩
  unfold cut1 ends
  by_cases q1 : h (way ws c).1 = r <;> by_cases q2 : h (way ws c).2.1 = r <;> simp [m1, m2, q1, q2]
/-- the places that are left -/
abbrev leftF (n root : Nat) (fs : List Nat) (ws : Wl) : List Nat := lft (hom ws (chF n root fs ws)) n root
structure RchF (n root : Nat) (fs : List Nat) (ws : Wl) : Prop where
  mem : ∀ x, x < n → (x ∈ leftF n root fs ws ↔ ¬ Cn (edg ws (keptF n root fs ws)) root x)
  ends : ∀ c ∈ keptF n root fs ws, Cn (edg ws (keptF n root fs ws)) root (way ws c).1 ∧ Cn (edg ws (keptF n root fs ws)) root (way ws c).2.1
  cov : ∀ x ∈ leftF n root fs ws, ∃ A ∈ (allF n root fs ws).2, x ∈ A ∧ ∀ y ∈ A, y ∈ leftF n root fs ws
theorem lft_mem {n root : Nat} {ws : Wl} {cs : List Nat} (W : Wf n ws) (hc : ∀ c ∈ cs, c < ws.length) (rn : root < n) {x : Nat} (hx : x < n) : x ∈ lft (hom ws cs) n root ↔ ¬ Cn (edg ws cs) root x := by
  have HM := hom_ok W cs hc
  unfold lft
  rw [List.mem_filter, List.mem_range, decide_eq_true_eq, mem_cls]
  constructor
  · rintro ⟨_, z⟩ y
    exact z ⟨hx, ((HM.iff root x rn hx).mpr y).symm⟩
  · intro z
    exact ⟨hx, fun y => z ((HM.iff root x rn hx).mp y.2.symm)⟩
theorem rchF {n root : Nat} {fs : List Nat} {ws : Wl} (W : Wf n ws) (hb : ∀ f ∈ fs, f ≤ 10000) (rn : root < n) : RchF n root fs ws := by
  obtain ⟨c1, c2, c3, c4, c5⟩ := chF_ok (root := root) (fs := fs) W
  have TK := allF_tk (root := root) (fs := fs) W
  have NI := allF_N (root := root) (fs := fs) (wf_ok W) hb
  obtain ⟨aw, t, b, FI, _⟩ := allF_end (root := root) (fs := fs) (wf_ok W) hb
  obtain ⟨k1, k2⟩ := kept0_rch W TK rn
  obtain ⟨P, p1, p2, p3⟩ := cutOff_rch (ws := ws) (notes := (allF n root fs ws).2) (root := root) (fun A hA => (NI.g.grp A hA).2.2.2.1) (kept0 n root ws (allF n root fs ws).1).length (kept0 n root ws (allF n root fs ws).1) k2
  have e1 : ∀ x y, Cn (edg ws (chF n root fs ws)) x y ↔ Cn (edg ws (keptF n root fs ws)) x y := fun x y => ⟨fun z => z.mono (edg_mono fun c hc => (c5 c).mp hc), fun z => z.mono (edg_mono fun c hc => (c5 c).mpr hc)⟩
  have hm : ∀ x, x < n → (x ∈ leftF n root fs ws ↔ ¬ Cn (edg ws (keptF n root fs ws)) root x) := fun x hx => by
    rw [← e1]; exact lft_mem W c4.lt rn hx
  refine ⟨hm, fun c hc => ?_, fun x hx => ?_⟩
  · have := p3 c hc
    exact ⟨this, this.fwd (mem_edg'.mpr ⟨c, hc, rfl, rfl⟩)⟩
  · have xn := lft_lt hx
    have hx' := (hm x xn).mp hx
    have hx2 : ¬ (Cn (edg ws (kept0 n root ws (allF n root fs ws).1)) root x ∧ ∀ g ∈ P, x ∉ g) := fun z => hx' ((p2 x).mpr z)
    by_cases q : (allF n root fs ws).1.h x = (allF n root fs ws).1.h root
    · have : ∃ g ∈ P, x ∈ g := Classical.byContradiction fun z => hx2 ⟨(k1 x xn).mpr q, fun g hg hxg => z ⟨g, hg, hxg⟩⟩
      obtain ⟨g, hg, hxg⟩ := this
      refine ⟨g, p1 g hg, hxg, fun y hy => ?_⟩
      have yn := ((NI.g.grp g (p1 g hg)).2.2.1 y hy).1
      exact (hm y yn).mpr fun z => ((p2 y).mp z).2 g hg hy
    · obtain ⟨es, HM⟩ := FI.m.g.hom
      have hr : (allF n root fs ws).1.h x < n := Nat.lt_of_le_of_lt (HM.le x xn) xn
      have hroot : root ∉ cls (allF n root fs ws).1.h n ((allF n root fs ws).1.h x) := fun z => by
        have := (mem_cls.mp z).2
        rw [HM.idem x xn] at this
        exact q this.symm
      have hno : ¬ 0 < rest fs (allF n root fs ws).1 (cls (allF n root fs ws).1.h n ((allF n root fs ws).1.h x)) := fun z => by
        have : (allF n root fs ws).1.h x ∈ awk n root fs (allF n root fs ws).1 := mem_awk.mpr ⟨⟨hr, HM.idem x xn⟩, hroot, z⟩
        rw [aw] at this; cases this
      refine ⟨_, NI.tight _ hr (HM.idem x xn) hroot hno, ?_, fun y hy => ?_⟩
      · rw [cls_hom HM xn]; exact mem_cls.mpr ⟨xn, rfl⟩
      · rw [cls_hom HM xn] at hy
        obtain ⟨yn, ye⟩ := mem_cls.mp hy
        refine (hm y yn).mpr fun z => q ?_
        have := (k1 y yn).mp ((p2 y).mp z).1
        exact ye.symm.trans this
theorem sum_ifI (x : Int) (f : Nat → Bool) : ∀ R : List Nat, (R.map fun r => if f r = true then x else 0).sum = x * ((R.filter f).length : Int)
  | [] => by simp
  | r :: R => by
    rw [List.map_cons, List.sum_cons, sum_ifI x f R, List.filter_cons]
    by_cases q : f r = true
    · rw [if_pos q, if_pos q, List.length_cons, Int.natCast_succ, Int.mul_add]; omega
    · rw [if_neg q, if_neg q]; omega
/-- what is kept and left costs at most twice the widths -/
theorem fine_twice {n root : Nat} {fs : List Nat} {ws : Wl} (W : Wf n ws) (hb : ∀ f ∈ fs, f ≤ 10000) (rn : root < n) : 4096 * (cost ws (chF n root fs ws) + 2 * fineS fs (leftF n root fs ws)) ≤ 2 * wt (allF n root fs ws).1.wid := by
  have R := rchF (fs := fs) W hb rn
  obtain ⟨c1, c2, c3, c4, c5⟩ := chF_ok (root := root) (fs := fs) W
  have TK := allF_tk (root := root) (fs := fs) W
  have NI0 := allF_N (root := root) (fs := fs) (wf_ok W) hb
  obtain ⟨aw, t0, b0, FI0, _⟩ := allF_end (root := root) (fs := fs) (wf_ok W) hb
  have hfc : fstCut ws (allF n root fs ws).2 (keptF n root fs ws) = none := cutOff_end _ (Nat.le_refl _)
  have key : ld ws (keptF n root fs ws) (allF n root fs ws).1.wid + 2 * usedW (leftF n root fs ws) (allF n root fs ws).1.wid ≤ 2 * wt (allF n root fs ws).1.wid := by
    refine allF_ind2 (I := fun S => ld ws (keptF n root fs ws) S.wid + 2 * usedW (leftF n root fs ws) S.wid ≤ 2 * wt S.wid) W hb ?_ ?_
    · have e0 : ∀ D : List Nat, ld ws D [] = 0 := fun D => by
        unfold ld xl
        induction D with
        | nil => rfl
        | cons c D ih => rw [List.map_cons, List.sum_cons, ih]; rfl
      show ld ws (keptF n root fs ws) [] + 2 * usedW (leftF n root fs ws) [] ≤ 2 * wt []
      rw [e0]; exact Int.le_refl _
    · intro t b Q FF N T hT hM hA h
      obtain ⟨S, nt⟩ := Q
      have h : ld ws (keptF n root fs ws) S.wid + 2 * usedW (leftF n root fs ws) S.wid ≤ 2 * wt S.wid := h
      obtain ⟨_, s0, _⟩ := FF.span (wf_ok W) hA
      have th : S.h = hom ws (tkn S) := T.h
      show ld ws (keptF n root fs ws) (turnF n root fs ws (S, nt)).1.wid + 2 * usedW (leftF n root fs ws) (turnF n root fs ws (S, nt)).1.wid ≤ 2 * wt (turnF n root fs ws (S, nt)).1.wid
      rw [turnF_wid, wt_fold, ld_fold awk_ok _ fun c hc => way_lt W (c3 c hc), used_fold, sum_ifI]
      have hcount := countF (F := tkn (allF n root fs ws).1) (G := tkn S) (K := keptF n root fs ws) (root := root) (act := fun r => decide (root ∉ cls S.h n r) && decide (0 < rest fs S (cls S.h n r))) W TK.fo TK.lt hT c2 c1 rn (by
          rw [← th]
          have HM := hom_ok W (tkn S) T.lt
          rw [← th] at HM
          have : root ∈ cls S.h n (S.h root) := by rw [cls_hom HM rn]; exact mem_cls.mpr ⟨rn, rfl⟩
          rw [decide_eq_false (fun z => z this), Bool.false_and]) (fun r hr hne hac => by
          rw [← th] at hr hne ⊢
          obtain ⟨r1, r2⟩ := mem_reps'.mp hr
          have hroot : root ∉ cls S.h n r := fun z => hne (by have := (mem_cls.mp z).2; rw [r2] at this; exact this.symm)
          have hrest : ¬ 0 < rest fs S (cls S.h n r) := fun z => by
            rw [decide_eq_true hroot, decide_eq_true z] at hac; cases hac
          have hnote := hM _ (N.tight r r1 r2 hroot hrest)
          have := List.find?_eq_none.mp hfc _ hnote
          intro e
          apply this
          refine decide_eq_true ?_
          rw [leads_dgr r2 fun c hc => way_lt W (c3 c hc)]
          exact e)
      rw [← th] at hcount
      have hawk : (reps S.h n).filter (fun r => decide (root ∉ cls S.h n r) && decide (0 < rest fs S (cls S.h n r))) = awk n root fs S := rfl
      rw [hawk] at hcount
      have hsub : ((awk n root fs S).filter fun r => !decide (dgr ws S.h (keptF n root fs ws) r = 0)).length + ((awk n root fs S).filter fun r => inK (cls S.h n r) (leftF n root fs ws)).length ≤ (awk n root fs S).length := by
        have h2 := len_filter2 (fun r => inK (cls S.h n r) (leftF n root fs ws)) (awk n root fs S)
        have h3 : ((awk n root fs S).filter fun r => !decide (dgr ws S.h (keptF n root fs ws) r = 0)).length ≤ ((awk n root fs S).filter fun r => !inK (cls S.h n r) (leftF n root fs ws)).length := by
          rw [filter_sum, filter_sum]
          refine sum_le_sum fun r hr => ?_
          by_cases q : dgr ws S.h (keptF n root fs ws) r = 0
          · rw [decide_eq_true q]; exact Nat.zero_le _
          · obtain ⟨r1, r2⟩ := awk_ok r hr
            obtain ⟨c, hc⟩ : ∃ c, c ∈ (keptF n root fs ws).filter (cut1 ws S.h r) := List.exists_mem_of_ne_nil _ fun z => q (by unfold dgr; rw [z]; rfl)
            obtain ⟨hcK, hcut⟩ := List.mem_filter.mp hc
            obtain ⟨w1, w2⟩ := way_lt W (c3 c hcK)
            obtain ⟨e1, e2⟩ := R.ends c hcK
            have : ¬ inK (cls S.h n r) (leftF n root fs ws) = true := fun z => by
              have z := inK_iff.mp z
              unfold cut1 at hcut
              by_cases q1 : S.h (way ws c).1 = r
              · have := z _ (mem_cls.mpr ⟨w1, q1.trans r2.symm⟩)
                exact (R.mem _ w1).mp this e1
              · have q2 : S.h (way ws c).2.1 = r := by
                  cases q2 : decide (S.h (way ws c).2.1 = r) with
                  | true => exact of_decide_eq_true q2
                  | false => rw [decide_eq_false q1, q2] at hcut; cases hcut
                have := z _ (mem_cls.mpr ⟨w2, q2.trans r2.symm⟩)
                exact (R.mem _ w2).mp this e2
            rw [Bool.eq_false_iff.mpr this, decide_eq_false q]; exact Nat.le_refl _
        omega
      generalize hs : spanF n root fs ws S = s at *
      generalize hx : ((awk n root fs S).map (dgr ws S.h (keptF n root fs ws))).sum = x at *
      generalize hmm : (awk n root fs S).length = mm at *
      generalize hi : ((awk n root fs S).filter fun r => inK (cls S.h n r) (leftF n root fs ws)).length = ii at *
      have a1 : (x : Int) + 2 * (ii : Int) ≤ 2 * (mm : Int) := by omega
      have a2 := Int.mul_le_mul_of_nonneg_left a1 (Int.le_of_lt s0)
      rw [Int.mul_add, Int.mul_left_comm s 2, Int.mul_left_comm s 2] at a2
      omega
  have FA := full_allF (root := root) (fs := fs) W hb
  have e := ld_eq FA _ c2
  have ec : cost ws (keptF n root fs ws) = cost ws (chF n root fs ws) := by
    have hp : (keptF n root fs ws).Perm (chF n root fs ws) := (List.perm_ext_iff_of_nodup c1 (c4.asc.imp fun h => Nat.ne_of_lt h)).mpr fun c => (c5 c).symm
    exact perm_sum (hp.map _)
  have hl : (leftF n root fs ws).Pairwise (· < ·) := (range_pw n).filter _
  have hn : ∀ x ∈ leftF n root fs ws, x < n := fun x hx => lft_lt hx
  have hkey : ∀ kw ∈ (allF n root fs ws).1.wid, kw.1 ≠ [] ∧ 0 < kw.2 ∧ ∀ x ∈ kw.1, x < n := fun kw hk => by
    obtain ⟨k1, k2, _⟩ := FI0.m.g.key kw hk
    exact ⟨k2, (FI0.m.g.w0 kw hk).1, fun x hx => (k1 x hx).1⟩
  let U := (allF n root fs ws).2.filter fun A => inK A (leftF n root fs ws)
  have hU : ∀ A ∈ U, A ∈ (allF n root fs ws).2 ∧ ∀ x ∈ A, x ∈ leftF n root fs ws := fun A hA => ⟨(List.mem_filter.mp hA).1, inK_iff.mp (List.mem_filter.mp hA).2⟩
  have hu := union_used (fs := fs) hkey U.length U (Nat.le_refl _) (fun A hA B hB => NI0.g.lam A (hU A hA).1 B (hU B hB).1) fun A hA => by
    obtain ⟨g1, g2, g3, g4, g5⟩ := NI0.g.grp A (hU A hA).1
    exact ⟨g2, fun x hx => (g3 x hx).1, g5⟩
  have hp : ∀ x, x < n → (U.any fun A => decide (x ∈ A)) = decide (x ∈ leftF n root fs ws) := fun x _ => by
    rw [Bool.eq_iff_iff, List.any_eq_true, decide_eq_true_eq]
    constructor
    · rintro ⟨A, hA, hx⟩
      exact (hU A hA).2 x (of_decide_eq_true hx)
    · intro hx
      obtain ⟨A, hA, hxA, hall⟩ := R.cov x hx
      exact ⟨A, List.mem_filter.mpr ⟨hA, inK_iff.mpr hall⟩, decide_eq_true hxA⟩
  rw [finP_congr hp, usdP_congr (fun kw hkw => (hkey kw hkw).2.2) hp, ← finP_cls hl hn, ← usdP_used] at hu
  rw [e, ec] at key
  omega
/-! ### no choice costs less -/
theorem rest_any {n root t b : Nat} {fs : List Nat} {ws : Wl} {S : Gs} (G : GB n ws t b S) (hI : ∀ p : Nat → Bool, p root = false → usdP p S.wid ≤ finP n fs p * 4096) {g : Nat → Int} : ∀ (T : List Nat), T.Nodup → (∀ r ∈ T, r < n ∧ S.h r = r) → (∀ r ∈ T, usedW (cls S.h n r) S.wid + g r ≤ fineS fs (cls S.h n r) * 4096) →
    ∀ p : Nat → Bool, p root = false → (∀ r ∈ T, (cls S.h n r).all p = true) → usdP p S.wid + (T.map g).sum ≤ finP n fs p * 4096
  | [], _, _, _, p, hp, _ => by
    have := hI p hp
    show usdP p S.wid + 0 ≤ _
    omega
  | r :: T, nd, hT, hg, p, hp, hall => by
    obtain ⟨n1, n2⟩ := List.nodup_cons.mp nd
    obtain ⟨rn, rr⟩ := hT r List.mem_cons_self
    have hr := List.all_eq_true.mp (hall r List.mem_cons_self)
    let q := fun x => p x && decide (x ∉ cls S.h n r)
    have ih := rest_any G hI (g := g) T n2 (fun x hx => hT x (List.mem_cons_of_mem _ hx)) (fun x hx => hg x (List.mem_cons_of_mem _ hx)) q (by show (p root && _) = false; rw [hp]; rfl) fun r' hr' => by
      refine List.all_eq_true.mpr fun x hx => ?_
      have h1 := List.all_eq_true.mp (hall r' (List.mem_cons_of_mem _ hr')) x hx
      obtain ⟨rn', rr'⟩ := hT r' (List.mem_cons_of_mem _ hr')
      have h2 : x ∉ cls S.h n r := fun z => by
        have e1 := (mem_cls.mp z).2
        have e2 := (mem_cls.mp hx).2
        rw [rr] at e1; rw [rr'] at e2
        exact n1 (by rw [← e1, e2]; exact hr')
      show (p x && decide (x ∉ cls S.h n r)) = true
      rw [h1, decide_eq_true h2]; rfl
    have e : ∀ x, x < n → p x = (q x || decide (x ∈ cls S.h n r)) := fun x _ => by
      show p x = ((p x && decide (x ∉ cls S.h n r)) || decide (x ∈ cls S.h n r))
      by_cases z : x ∈ cls S.h n r
      · rw [hr x z, decide_eq_true z, Bool.or_true]
      · rw [decide_eq_false z, decide_eq_true z, Bool.and_true, Bool.or_false]
    have ef : finP n fs p = finP n fs q + fineS fs (cls S.h n r) := by
      rw [finP_congr e, finP_or fun x _ z => by
        have z1 : (p x && decide (x ∉ cls S.h n r)) = true := z.1
        rw [Bool.and_eq_true, decide_eq_true_eq] at z1
        exact z1.2 (of_decide_eq_true z.2), finP_cls (cls_pw _ _ _) fun x hx => (mem_cls.mp hx).1]
    have eu : usdP p S.wid ≤ usdP q S.wid + usedW (cls S.h n r) S.wid := by
      rw [usdP_used]
      unfold usdP
      rw [← sum_addI]
      refine sum_le_sumI fun kw hk => ?_
      obtain ⟨k1, k2, _⟩ := G.key kw hk
      have w0 := (G.w0 kw hk).1
      obtain ⟨y, hy⟩ := List.exists_mem_of_ne_nil _ k2
      by_cases z : kw.1.all p = true
      · rw [if_pos z]
        by_cases hyc : y ∈ cls S.h n r
        · have : kw.1.all (fun x => decide (x ∈ cls S.h n r)) = true := List.all_eq_true.mpr fun x hx => decide_eq_true (mem_cls.mpr ⟨(k1 x hx).1, ((k1 x hx).2 y hy).trans (mem_cls.mp hyc).2⟩)
          rw [if_pos this]
          split <;> omega
        · have : kw.1.all q = true := List.all_eq_true.mpr fun x hx => by
            have h1 := List.all_eq_true.mp z x hx
            have h2 : x ∉ cls S.h n r := fun u => hyc (mem_cls.mpr ⟨(k1 y hy).1, ((k1 y hy).2 x hx).trans (mem_cls.mp u).2⟩)
            show (p x && decide (x ∉ cls S.h n r)) = true
            rw [h1, decide_eq_true h2]; rfl
          rw [if_pos this]
          split <;> omega
      · rw [if_neg z]
        split <;> split <;> omega
    have := hg r List.mem_cons_self
    rw [List.map_cons, List.sum_cons, ef]
    omega
theorem rest_all {n root : Nat} {fs : List Nat} {ws : Wl} (W : Wf n ws) (hb : ∀ f ∈ fs, f ≤ 10000) : ∀ p : Nat → Bool, p root = false → usdP p (allF n root fs ws).1.wid ≤ finP n fs p * 4096 := by
  refine allF_ind2 (root := root) (fs := fs) (I := fun S => ∀ p : Nat → Bool, p root = false → usdP p S.wid ≤ finP n fs p * 4096) W hb ?_ ?_
  · intro p _
    show (0 : Int) ≤ _
    have : 0 ≤ finP n fs p := sum_pos0 fun y hy => by
      obtain ⟨x, _, rfl⟩ := List.mem_map.mp hy
      split <;> omega
    omega
  · intro t b Q FF N T _ _ hA h p hp
    obtain ⟨S, nt⟩ := Q
    obtain ⟨_, s0, s1⟩ := FF.span (wf_ok W) hA
    rw [turnF_wid]
    have e : ∀ (R : List Nat) (l : Wid), usdP p (R.foldl (fun w r => addW w (cls S.h n r) (spanF n root fs ws S)) l) = usdP p l + (R.map fun r => if (cls S.h n r).all p = true then spanF n root fs ws S else 0).sum := by
      have e1 : ∀ (k : List Nat) (s : Int) (l : Wid), usdP p (addW l k s) = usdP p l + if k.all p = true then s else 0 := by
        intro k s l
        induction l with
        | nil => show (if k.all p = true then s else 0) + 0 = 0 + _; omega
        | cons a l ih =>
          obtain ⟨j, w⟩ := a
          by_cases q : j = k
          · subst q
            have e1 : addW ((j, w) :: l) j s = (j, w + s) :: l := if_pos rfl
            rw [e1]
            unfold usdP
            rw [List.map_cons, List.map_cons, List.sum_cons, List.sum_cons]
            by_cases z : j.all p = true
            · simp only [if_pos z]; omega
            · simp only [if_neg z]; omega
          · have e1 : addW ((j, w) :: l) k s = (j, w) :: addW l k s := if_neg q
            rw [e1]
            unfold usdP at ih ⊢
            rw [List.map_cons, List.map_cons, List.sum_cons, List.sum_cons, ih]; omega
      intro R
      induction R with
      | nil => intro l; show usdP p l = usdP p l + 0; omega
      | cons r R ih => intro l; rw [List.foldl_cons, ih, e1, List.map_cons, List.sum_cons]; omega
    rw [e]
    have hT := rest_any FF.m.g h (g := fun _ => spanF n root fs ws S) ((awk n root fs S).filter fun r => (cls S.h n r).all p) ((awk_nodup n root fs S).filter _) (fun r hr => awk_ok r (List.mem_filter.mp hr).1) (fun r hr => by
      have h9 : spanF n root fs ws S ≤ fineS fs (cls S.h n r) * 4096 - usedW (cls S.h n r) S.wid := s1 r (List.mem_filter.mp hr).1
      show usedW (cls S.h n r) S.wid + spanF n root fs ws S ≤ fineS fs (cls S.h n r) * 4096
      omega) p hp fun r hr => (List.mem_filter.mp hr).2
    rw [filter_sumI (fun r => (cls S.h n r).all p) (fun _ => spanF n root fs ws S) (awk n root fs S)] at hT
    exact hT
theorem fine_low {n root : Nat} {fs D : List Nat} {ws : Wl} (W : Wf n ws) (hb : ∀ f ∈ fs, f ≤ 10000) (rn : root < n) (hD : ∀ c ∈ D, c < ws.length) : wt (allF n root fs ws).1.wid ≤ 4096 * (cost ws D + fineS fs (lft (hom ws D) n root)) := by
  have HM := hom_ok W D hD
  have key : wt (allF n root fs ws).1.wid ≤ ld ws D (allF n root fs ws).1.wid + usedW (lft (hom ws D) n root) (allF n root fs ws).1.wid := by
    refine allF_ind2 (root := root) (fs := fs) (I := fun S => wt S.wid ≤ ld ws D S.wid + usedW (lft (hom ws D) n root) S.wid) W hb ?_ ?_
    · have e0 : ∀ D : List Nat, ld ws D [] = 0 := fun D => by
        unfold ld xl
        induction D with
        | nil => rfl
        | cons c D ih => rw [List.map_cons, List.sum_cons, ih]; rfl
      show wt [] ≤ ld ws D [] + usedW (lft (hom ws D) n root) []
      rw [e0]; exact Int.le_refl _
    · intro t b Q FF N T hT hM hA h
      obtain ⟨S, nt⟩ := Q
      have h : wt S.wid ≤ ld ws D S.wid + usedW (lft (hom ws D) n root) S.wid := h
      obtain ⟨_, s0, _⟩ := FF.span (wf_ok W) hA
      show wt (turnF n root fs ws (S, nt)).1.wid ≤ ld ws D (turnF n root fs ws (S, nt)).1.wid + usedW (lft (hom ws D) n root) (turnF n root fs ws (S, nt)).1.wid
      rw [turnF_wid, wt_fold, ld_fold awk_ok _ fun c hc => way_lt W (hD c hc), used_fold, sum_ifI]
      have hle : (awk n root fs S).length ≤ ((awk n root fs S).map (dgr ws S.h D)).sum + ((awk n root fs S).filter fun r => inK (cls S.h n r) (lft (hom ws D) n root)).length := by
        rw [filter_sum, ← sum_add]
        have : ∀ l : List Nat, (∀ r ∈ l, 1 ≤ dgr ws S.h D r + b2n (inK (cls S.h n r) (lft (hom ws D) n root))) → l.length ≤ (l.map fun r => dgr ws S.h D r + b2n (inK (cls S.h n r) (lft (hom ws D) n root))).sum := by
          intro l
          induction l with
          | nil => intro _; exact Nat.le_refl _
          | cons x l ih =>
            intro hl
            have h1 := ih fun r hr => hl r (List.mem_cons_of_mem _ hr)
            have h2 := hl x List.mem_cons_self
            simp only [List.map_cons, List.sum_cons, List.length_cons]; omega
        refine this _ fun r hr => ?_
        obtain ⟨⟨r1, r2⟩, r3, _⟩ := mem_awk.mp hr
        by_cases q : dgr ws S.h D r = 0
        · have hno : ∀ c ∈ D, cut1 ws S.h r c = false := fun c hc => by
            cases z : cut1 ws S.h r c with
            | false => rfl
            | true =>
              have : c ∈ D.filter (cut1 ws S.h r) := List.mem_filter.mpr ⟨hc, z⟩
              rw [List.eq_nil_of_length_eq_zero (show (D.filter (cut1 ws S.h r)).length = 0 from q)] at this
              cases this
          have : inK (cls S.h n r) (lft (hom ws D) n root) = true := inK_iff.mpr fun x hx => by
            obtain ⟨xn, xe⟩ := mem_cls.mp hx
            refine (lft_mem W hD rn xn).mpr fun z => r3 ?_
            have := (cut_inv hno z).mpr (xe.trans r2)
            exact mem_cls.mpr ⟨rn, this.trans r2.symm⟩
          rw [this]; show 1 ≤ _ + 1; omega
        · omega
      generalize hs : spanF n root fs ws S = s at *
      generalize hx : ((awk n root fs S).map (dgr ws S.h D)).sum = x at *
      generalize hmm : (awk n root fs S).length = mm at *
      generalize hi : ((awk n root fs S).filter fun r => inK (cls S.h n r) (lft (hom ws D) n root)).length = ii at *
      have a1 : (mm : Int) ≤ (x : Int) + (ii : Int) := by omega
      have a2 := Int.mul_le_mul_of_nonneg_left a1 (Int.le_of_lt s0)
      rw [Int.mul_add] at a2
      omega
  have FA := full_allF (root := root) (fs := fs) W hb
  have h1 := ld_le FA D hD
  have hl : (lft (hom ws D) n root).Pairwise (· < ·) := (range_pw n).filter _
  have h2 := rest_all (root := root) W hb (fun x => decide (x ∈ lft (hom ws D) n root)) (decide_eq_false fun z => (lft_mem W hD rn rn).mp z (.refl _))
  rw [← usdP_used, ← finP_cls hl fun x hx => lft_lt hx] at h2
  omega
/-- how many ways are kept -/
theorem keptF_size {n root : Nat} {fs : List Nat} {ws : Wl} (W : Wf n ws) (hb : ∀ f ∈ fs, f ≤ 10000) (rn : root < n) : (chF n root fs ws).length + 1 + (leftF n root fs ws).length = n := by
  have R := rchF (fs := fs) W hb rn
  obtain ⟨c1, c2, c3, c4, c5⟩ := chF_ok (root := root) (fs := fs) W
  have TK := allF_tk (root := root) (fs := fs) W
  have h1 := reps_many (G := []) W TK.fo TK.lt (fun c hc => nomatch hc) (keptF n root fs ws) c1 fun c hc => ⟨c2 c hc, fun z => nomatch z⟩
  rw [List.nil_append] at h1
  have HM := hom_ok W (keptF n root fs ws) c3
  have e0 : (reps (hom ws []) n).length = n := by
    have : reps (hom ws []) n = List.range n := by
      unfold reps
      exact List.filter_eq_self.mpr fun x _ => by simp [hom]
    rw [this, List.length_range]
  have hp : (leftF n root fs ws ++ [hom ws (keptF n root fs ws) root]).Perm (reps (hom ws (keptF n root fs ws)) n) := by
    have hl : (leftF n root fs ws).Nodup := ((range_pw n).filter _).imp fun h => Nat.ne_of_lt h
    have hr0 : hom ws (keptF n root fs ws) root < n := Nat.lt_of_le_of_lt (HM.le _ rn) rn
    have hrr : Cn (edg ws (keptF n root fs ws)) root (hom ws (keptF n root fs ws) root) := ((HM.iff _ _ hr0 rn).mp (HM.idem root rn)).symm
    refine (List.perm_ext_iff_of_nodup ?_ (reps_nodup _ _)).mpr fun r => ?_
    · rw [List.nodup_append]
      refine ⟨hl, nd1 _, fun x hx y hy e => ?_⟩
      rw [List.mem_singleton.mp hy] at e
      subst e
      exact (R.mem _ hr0).mp hx hrr
    · rw [List.mem_append, List.mem_singleton, mem_reps']
      constructor
      · rintro (z | z)
        · have xn := lft_lt z
          refine ⟨xn, ?_⟩
          have hno := (R.mem r xn).mp z
          have := (HM.iff _ _ (Nat.lt_of_le_of_lt (HM.le r xn) xn) xn).mp (HM.idem r xn)
          have h3 := this.symm.inv (P := fun y => y = r) fun e he => by
            obtain ⟨c, hc, rfl⟩ := mem_edg.mp he
            obtain ⟨q1, q2⟩ := R.ends c hc
            exact ⟨fun y => absurd (y ▸ q1) hno, fun y => absurd (y ▸ q2) hno⟩
          exact h3.mp rfl
        · rw [z]; exact ⟨hr0, HM.idem _ rn⟩
      · rintro ⟨rn', rr⟩
        by_cases q : Cn (edg ws (keptF n root fs ws)) root r
        · refine .inr ?_
          have := (HM.iff root r rn rn').mpr q
          rw [rr] at this; exact this.symm
        · exact .inl ((R.mem r rn').mpr q)
  have h2 := hp.length_eq
  rw [List.length_append, List.length_singleton] at h2
  have h3 : (keptF n root fs ws).length = (chF n root fs ws).length := ((List.perm_ext_iff_of_nodup c1 (c4.asc.imp fun h => Nat.ne_of_lt h)).mpr fun c => (c5 c).symm).length_eq
  omega
end Mw

set_option linter.all false
namespace Mw
/-! ### the root's own fine does not matter -/
theorem fineS_eq {root : Nat} {fs gs : List Nat} (h : ∀ x, x ≠ root → fs.getD x 0 = gs.getD x 0) {c : List Nat} (hc : root ∉ c) : fineS fs c = fineS gs c := by
  unfold fineS
  congr 1
  refine List.map_congr_left fun x hx => ?_
  rw [h x fun e => hc (e ▸ hx)]
theorem rest_eq {root : Nat} {fs gs : List Nat} (h : ∀ x, x ≠ root → fs.getD x 0 = gs.getD x 0) (S : Gs) {c : List Nat} (hc : root ∉ c) : rest fs S c = rest gs S c := by
  unfold rest; rw [fineS_eq h hc]
theorem awk_eq {n root : Nat} {fs gs : List Nat} (h : ∀ x, x ≠ root → fs.getD x 0 = gs.getD x 0) (S : Gs) : awk n root fs S = awk n root gs S := by
  unfold awk
  refine List.filter_congr fun r _ => ?_
  by_cases q : root ∈ cls S.h n r
  · rw [decide_eq_false (fun z => z q)]; rfl
  · rw [rest_eq h S q]
theorem spanF_eq {n root : Nat} {fs gs : List Nat} {ws : Wl} (h : ∀ x, x ≠ root → fs.getD x 0 = gs.getD x 0) (S : Gs) : spanF n root fs ws S = spanF n root gs ws S := by
  unfold spanF
  have e : (awk n root fs S).map (fun r => rest fs S (cls S.h n r)) = (awk n root gs S).map fun r => rest gs S (cls S.h n r) := by
    rw [← awk_eq h S]
    exact List.map_congr_left fun r hr => rest_eq h S (mem_awk.mp hr).2.1
  rw [e, awk_eq h S]
theorem note1_eq {root : Nat} {fs gs : List Nat} (h : ∀ x, x ≠ root → fs.getD x 0 = gs.getD x 0) (S : Gs) (l : Keys) (c : List Nat) : note1 root fs S l c = note1 root gs S l c := by
  unfold note1
  by_cases q : root ∈ c
  · rw [if_neg fun z => z.1 q, if_neg fun z => z.1 q]
  · rw [rest_eq h S q]
theorem noteL_eq {root : Nat} {fs gs : List Nat} (h : ∀ x, x ≠ root → fs.getD x 0 = gs.getD x 0) (S : Gs) : ∀ (cs l : Keys), noteL root fs S l cs = noteL root gs S l cs
  | [], _ => rfl
  | c :: cs, l => by
    show noteL root fs S (note1 root fs S l c) cs = noteL root gs S (note1 root gs S l c) cs
    rw [note1_eq h, noteL_eq h S cs]
theorem turnF_eq {n root : Nat} {fs gs : List Nat} {ws : Wl} (h : ∀ x, x ≠ root → fs.getD x 0 = gs.getD x 0) (Q : Gs × Keys) : turnF n root fs ws Q = turnF n root gs ws Q := by
  unfold turnF
  rw [awk_eq h, spanF_eq h, noteL_eq h, noteL_eq h]
theorem groF_eq {n root : Nat} {fs gs : List Nat} {ws : Wl} (h : ∀ x, x ≠ root → fs.getD x 0 = gs.getD x 0) : ∀ (k : Nat) (Q : Gs × Keys), groF n root fs ws k Q = groF n root gs ws k Q
  | 0, Q => rfl
  | k + 1, Q => by
    show (if awk n root fs Q.1 = [] then Q else groF n root fs ws k (turnF n root fs ws Q)) = (if awk n root gs Q.1 = [] then Q else groF n root gs ws k (turnF n root gs ws Q))
    rw [awk_eq h, turnF_eq h, groF_eq h k]
theorem allF_eq {n root : Nat} {fs gs : List Nat} {ws : Wl} (h : ∀ x, x ≠ root → fs.getD x 0 = gs.getD x 0) : allF n root fs ws = allF n root gs ws := by
  unfold allF
  rw [noteL_eq h, groF_eq h]
end Mw

set_option Elab.async false
set_option linter.all false
set_option maxRecDepth 100000
set_option maxHeartbeats 4000000
namespace Mw
open PySem PySem.Spec PyProof.Rows L2 GE
/-! ### a net whose costs are a multiple -/
def sclW (m : Nat) (ws : Wl) : Wl := ws.map fun w => (w.1, w.2.1, w.2.2 * m)
def sclR (m : Int) (l : Wid) : Wid := l.map fun kw => (kw.1, kw.2 * m)
def sclT (m : Int) (l : List (Int × Nat)) : List (Int × Nat) := l.map fun tc => (tc.1 * m, tc.2)
def sclS (m : Int) (S : Gs) : Gs := ⟨S.h, fun p => S.dep p * m, sclR m S.wid, S.time * m, sclT m S.taken⟩
section
variable {n m : Nat} {ws : Wl} {ps : List Pr} {S : Gs}
theorem way_scl (m : Nat) (ws : Wl) (c : Nat) : way (sclW m ws) c = ((way ws c).1, (way ws c).2.1, (way ws c).2.2 * m) := by
  unfold way sclW
  rw [List.getD_eq_getElem?_getD, List.getD_eq_getElem?_getD, List.getElem?_map]
  cases ws[c]? with
  | none => show ((0 : Nat), (0 : Nat), (0 : Nat)) = (0, 0, 0 * m); rw [Nat.zero_mul]
  | some w => rfl
theorem wyAt_scl (m : Nat) (ws : Wl) (c : Nat) : wyAt (sclW m ws) c = ((wyAt ws c).1, (wyAt ws c).2.1, (wyAt ws c).2.2 * m) := way_scl m ws c
theorem len_scl (m : Nat) (ws : Wl) : (sclW m ws).length = ws.length := List.length_map _
theorem lack_scl (c : Nat) : lack (sclW m ws) (sclS m S) c = lack ws S c * m := by
  unfold lack
  rw [way_scl]
  show (((way ws c).2.2 * m : Nat) : Int) * 4096 - (S.dep _ * m + S.dep _ * m) = _
  rw [Int.natCast_mul, Int.sub_mul, Int.add_mul, Int.mul_right_comm]
theorem crosses_scl (c : Nat) : crosses (sclW m ws) (sclS m S) c = crosses ws S c := by
  unfold crosses; rw [way_scl]; rfl
theorem full_scl (h : 0 < m) (c : Nat) : full (sclW m ws) (sclS m S) c = full ws S c := by
  unfold full
  rw [crosses_scl, lack_scl]
  congr 1
  refine decide_eq_decide.mpr ⟨fun z => ?_, fun z => ?_⟩
  · rcases Int.lt_or_le 0 (lack ws S c) with q | q
    · have := Int.mul_pos q (show (0 : Int) < (m : Int) by omega); omega
    · exact q
  · exact Int.mul_nonpos_of_nonpos_of_nonneg z (by omega)
theorem first_scl (h : 0 < m) : first (sclW m ws) (sclS m S) = first ws S := by
  unfold first
  rw [len_scl]
  congr 1
  exact funext fun c => full_scl h c
theorem take1_scl (c : Nat) : take1 (sclW m ws) (sclS m S) c = sclS m (take1 ws S c) := by
  unfold take1 sclS
  rw [way_scl]
  dsimp only
  congr 1
  unfold sclT
  rw [List.map_append]; rfl
theorem takeAll_scl (h : 0 < m) : ∀ (k : Nat) (S : Gs), takeAll (sclW m ws) k (sclS m S) = sclS m (takeAll ws k S)
  | 0, S => rfl
  | k + 1, S => by
    show (match first (sclW m ws) (sclS m S) with | none => sclS m S | some c => takeAll (sclW m ws) k (take1 (sclW m ws) (sclS m S) c)) = sclS m (match first ws S with | none => S | some c => takeAll ws k (take1 ws S c))
    rw [first_scl h]
    cases first ws S with
    | none => rfl
    | some c =>
      show takeAll (sclW m ws) k (take1 (sclW m ws) (sclS m S) c) = sclS m (takeAll ws k (take1 ws S c))
      rw [take1_scl, takeAll_scl h k]
theorem spd_scl (R : List Nat) (c : Nat) : spd (sclW m ws) (sclS m S) R c = spd ws S R c := by
  unfold spd; rw [way_scl]; rfl
theorem canW_scl (R : List Nat) : canW (sclW m ws) (sclS m S) R = canW ws S R := by
  unfold canW
  rw [len_scl]
  refine List.filter_congr fun c _ => ?_
  rw [crosses_scl, spd_scl]
theorem cand_scl {t : Nat} (G : GM n ws t S) (ht : t < 12) (R : List Nat) {c : Nat} (hs : 0 < spd ws S R c) : cand (sclW m ws) (sclS m S) R c = cand ws S R c * m := by
  have e := (G.cand_eq ht R hs).1
  have : cand (sclW m ws) (sclS m S) R c = lack ws S c * m / (spd ws S R c : Int) := by unfold cand; rw [lack_scl, spd_scl]
  rw [this, ← e, Int.mul_right_comm]
  exact Int.mul_ediv_cancel _ (by omega)
theorem less1_scl (h : 0 < m) (o : Option Int) (x : Int) : less1 (o.map (· * (m : Int))) (x * m) = (less1 o x).map (· * (m : Int)) := by
  cases o with
  | none => rfl
  | some y =>
    show (if x * (m : Int) < y * m then some (x * (m : Int)) else some (y * (m : Int))) = (if x < y then some x else some y).map _
    by_cases q : x < y
    · rw [if_pos q, if_pos (Int.mul_lt_mul_of_pos_right q (by omega))]; rfl
    · rw [if_neg q, if_neg fun z => q (Int.lt_of_mul_lt_mul_right z (by omega))]; rfl
theorem fold_scl (h : 0 < m) : ∀ (l : List Int) (o : Option Int), (l.map (· * (m : Int))).foldl less1 (o.map (· * (m : Int))) = (l.foldl less1 o).map (· * (m : Int))
  | [], _ => rfl
  | x :: l, o => by rw [List.map_cons, List.foldl_cons, List.foldl_cons, less1_scl h, fold_scl h l]
theorem span_scl {t : Nat} (h : 0 < m) (G : GM n ws t S) (ht : t < 12) (R : List Nat) : span (sclW m ws) (sclS m S) R = span ws S R * m := by
  unfold span
  rw [canW_scl]
  have e : (canW ws S R).map (cand (sclW m ws) (sclS m S) R) = ((canW ws S R).map (cand ws S R)).map (· * (m : Int)) := by
    rw [List.map_map]
    exact List.map_congr_left fun c hc => cand_scl G ht R (mem_canW.mp hc).2.2
  rw [e]
  have e2 := fold_scl h ((canW ws S R).map (cand ws S R)) none
  unfold least
  rw [show (((canW ws S R).map (cand ws S R)).map (· * (m : Int))).foldl less1 none = _ from e2]
  cases List.foldl less1 none ((canW ws S R).map (cand ws S R)) with
  | none => show (0 : Int) = 0 * m; omega
  | some x => rfl
theorem addW_scl (m : Int) (k : List Nat) (s : Int) : ∀ l : Wid, addW (sclR m l) k (s * m) = sclR m (addW l k s)
  | [] => rfl
  | (j, w) :: r => by
    show (if j = k then (j, w * m + s * m) :: sclR m r else (j, w * m) :: addW (sclR m r) k (s * m)) = sclR m (if j = k then (j, w + s) :: r else (j, w) :: addW r k s)
    by_cases q : j = k
    · rw [if_pos q, if_pos q, ← Int.add_mul]; rfl
    · rw [if_neg q, if_neg q, addW_scl m k s r]; rfl
theorem foldW_scl (m : Int) (h : Nat → Nat) (s : Int) : ∀ (R : List Nat) (l : Wid), R.foldl (fun w r => addW w (cls h n r) (s * m)) (sclR m l) = sclR m (R.foldl (fun w r => addW w (cls h n r) s) l)
  | [], l => rfl
  | r :: R, l => by rw [List.foldl_cons, List.foldl_cons, addW_scl, foldW_scl m h s R]
theorem grow_scl (R : List Nat) (s : Int) : grow n (sclS m S) R (s * m) = sclS m (grow n S R s) := by
  unfold grow
  show Gs.mk S.h (fun p => S.dep p * m + if S.h p ∈ R then s * m else 0) (R.foldl (fun w r => addW w (cls S.h n r) (s * m)) (sclR m S.wid)) (S.time * m + s * m) (sclT m S.taken) =
    Gs.mk S.h (fun p => (S.dep p + if S.h p ∈ R then s else 0) * m) (sclR m (R.foldl (fun w r => addW w (cls S.h n r) s) S.wid)) ((S.time + s) * m) (sclT m S.taken)
  rw [foldW_scl, Int.add_mul]
  congr 1
  funext p
  by_cases q : S.h p ∈ R
  · rw [if_pos q, if_pos q, Int.add_mul]
  · rw [if_neg q, if_neg q, Int.add_mul, Int.zero_mul]
theorem turn_scl {t : Nat} (h : 0 < m) (G : GM n ws t S) (ht : t < 12) : turn n (sclW m ws) ps (sclS m S) = sclS m (turn n ws ps S) := by
  unfold turn
  show takeAll (sclW m ws) n (grow n (sclS m S) (opens n ps S.h) (span (sclW m ws) (sclS m S) (opens n ps S.h))) = _
  rw [span_scl h G ht, grow_scl, takeAll_scl h]
theorem gro_scl (h : 0 < m) (W : WsOk n ws) (J : ∀ q ∈ ps, Cn (wedges ws) q.1 q.2) : ∀ (k t : Nat) (S : Gs) (L L' : List Rw), GF n ws t S → (gro n (sclW m ws) ps k (sclS m S) L').1 = sclS m (gro n ws ps k S L).1
  | 0, t, S, L, L', G => rfl
  | k + 1, t, S, L, L', G => by
    by_cases ho : opens n ps S.h = []
    · rw [gro_stop ho, gro_stop (S := sclS m S) ho]
    · have e : gro n ws ps (k + 1) S L = gro n ws ps k (turn n ws ps S) (L ++ [((turn n ws ps S).time, (turn n ws ps S).h)]) := if_neg ho
      have e' : gro n (sclW m ws) ps (k + 1) (sclS m S) L' = gro n (sclW m ws) ps k (turn n (sclW m ws) ps (sclS m S)) (L' ++ [((turn n (sclW m ws) ps (sclS m S)).time, (turn n (sclW m ws) ps (sclS m S)).h)]) := if_neg ho
      obtain ⟨ht, G2⟩ := G.turn W J ho
      rw [e, e', turn_scl h G.g ht]
      exact gro_scl h W J k (t + 1) _ _ _ G2
theorem all_scl (h : 0 < m) (W : WsOk n ws) (J : ∀ q ∈ ps, Cn (wedges ws) q.1 q.2) : (allGro n (sclW m ws) ps).1 = sclS m (allGro n ws ps).1 := by
  have e : sclS m start = start := by
    show Gs.mk _ (fun _ => (0 : Int) * m) [] (0 * m) [] = Gs.mk _ (fun _ => 0) [] 0 []
    rw [Int.zero_mul]
    rfl
  have := gro_scl (ps := ps) h W J n 0 start [(0, start.h)] [(0, start.h)] (GF.start W)
  rw [e] at this
  exact this
theorem tkn_scl (m : Int) (S : Gs) : tkn (sclS m S) = tkn S := by
  unfold tkn sclS sclT
  rw [List.map_map]; rfl
theorem hom_scl (cs : List Nat) : hom (sclW m ws) cs = hom ws cs := by
  unfold hom
  congr 1
  funext h c
  rw [wyAt_scl]
theorem jn_scl (cs : List Nat) : jn (sclW m ws) cs ps = jn ws cs ps := by
  unfold jn
  congr 1
  funext p
  unfold jn1
  rw [hom_scl]
theorem told_scl (h : 0 < m) (W : WsOk n ws) (J : ∀ q ∈ ps, Cn (wedges ws) q.1 q.2) : toldL n (sclW m ws) ps = toldL n ws ps := by
  have e : tkF n (sclW m ws) ps = tkF n ws ps := by
    show tkn (allGro n (sclW m ws) ps).1 = tkn (allGro n ws ps).1
    rw [all_scl h W J, tkn_scl]
  unfold toldL tkS
  rw [len_scl, e]
  refine List.filter_congr fun c _ => ?_
  unfold need
  rw [e, jn_scl]
theorem wedges_scl : wedges (sclW m ws) = wedges ws := by
  unfold wedges
  rw [len_scl]
  exact List.map_congr_left fun c _ => by rw [way_scl]
theorem Wf.scl (W : Wf n ws) (h : 0 < m) (hb : ∀ w ∈ ws, w.2.2 * m ≤ 10000) : Wf n (sclW m ws) := ⟨W.n1, W.n12, by rw [len_scl]; exact W.ln, fun w hw => by
  obtain ⟨v, hv, rfl⟩ := List.mem_map.mp hw
  obtain ⟨o1, o2, o3, o4⟩ := W.ok v hv
  exact ⟨o1, o2, Nat.mul_pos o3 h, hb v hv⟩⟩
theorem PapOf.scl {wid rs : Wid} (m : Int) (h : PapOf wid rs) : PapOf (sclR m wid) (sclR m rs) := ⟨h.perm.map _, by
  have : (sclR m rs).map (fun kw => li kw.1) = rs.map fun kw => li kw.1 := by unfold sclR; rw [List.map_map]; rfl
  rw [this]; exact h.srt⟩
/-! ### the pairs in another order -/
theorem opens_perm {ps' : List Pr} (h : ps.Perm ps') (g : Nat → Nat) : opens n ps g = opens n ps' g := by
  unfold opens
  refine List.filter_congr fun r _ => ?_
  rw [Bool.eq_iff_iff, List.any_eq_true, List.any_eq_true]
  exact ⟨fun ⟨x, q1, q2⟩ => ⟨x, h.mem_iff.mp q1, q2⟩, fun ⟨x, q1, q2⟩ => ⟨x, h.mem_iff.mpr q1, q2⟩⟩
theorem gro_perm {ps' : List Pr} (h : ps.Perm ps') : ∀ (k : Nat) (S : Gs) (L : List Rw), gro n ws ps k S L = gro n ws ps' k S L
  | 0, S, L => rfl
  | k + 1, S, L => by
    have et : turn n ws ps S = turn n ws ps' S := by unfold turn; rw [opens_perm h]
    show (if opens n ps S.h = [] then (S, L) else gro n ws ps k (turn n ws ps S) _) = (if opens n ps' S.h = [] then (S, L) else gro n ws ps' k (turn n ws ps' S) _)
    rw [opens_perm h, et, gro_perm h k]
theorem all_perm {ps' : List Pr} (h : ps.Perm ps') : allGro n ws ps = allGro n ws ps' := gro_perm h n start _
theorem jn_perm {ps' : List Pr} (h : ps.Perm ps') (cs : List Nat) : jn ws cs ps = jn ws cs ps' := by
  unfold jn
  rw [Bool.eq_iff_iff, List.all_eq_true, List.all_eq_true]
  exact ⟨fun z x q => z x (h.mem_iff.mpr q), fun z x q => z x (h.mem_iff.mp q)⟩
theorem told_perm {ps' : List Pr} (h : ps.Perm ps') : toldL n ws ps = toldL n ws ps' := by
  have e : tkF n ws ps = tkF n ws ps' := by show tkn _ = tkn _; rw [all_perm h]
  unfold toldL tkS
  rw [e]
  refine List.filter_congr fun c _ => ?_
  unfold need
  rw [e, jn_perm h]
theorem PsOk.perm {ps' : List Pr} (h : ps.Perm ps') (ok : PsOk n ps) : PsOk n ps' := ⟨fun p hp => ok.ok p (h.mem_iff.mpr hp), by rw [← h.length_eq]; exact ok.ln⟩
theorem turned_perm {α : Type} (l : List α) (s : Nat) : l.Perm (l.drop s ++ l.take s).reverse := by
  refine List.Perm.trans ?_ (List.reverse_perm _).symm
  refine List.Perm.trans ?_ List.perm_append_comm
  rw [List.take_append_drop]
end
end Mw

set_option Elab.async false
set_option linter.all false
set_option maxRecDepth 100000
set_option maxHeartbeats 4000000
namespace Mw
open PySem PySem.Spec PyProof.Rows L2 GE
/-! ### costs and fines that are a multiple -/
def sclF (m : Nat) (fs : List Nat) : List Nat := fs.map (· * m)
section
variable {n root m : Nat} {fs : List Nat} {ws : Wl} {S : Gs}
theorem sclF_at (m : Nat) (fs : List Nat) (x : Nat) : (sclF m fs).getD x 0 = fs.getD x 0 * m := by
  unfold sclF
  rw [List.getD_eq_getElem?_getD, List.getD_eq_getElem?_getD, List.getElem?_map]
  cases fs[x]? with
  | none => show 0 = 0 * m; rw [Nat.zero_mul]
  | some f => rfl
theorem sum_mulI (m : Int) : ∀ l : List Int, (l.map (· * m)).sum = l.sum * m
  | [] => by simp
  | x :: l => by rw [List.map_cons, List.sum_cons, List.sum_cons, sum_mulI m l, Int.add_mul]
theorem fineS_scl (c : List Nat) : fineS (sclF m fs) c = fineS fs c * m := by
  unfold fineS
  rw [← sum_mulI, List.map_map]
  congr 1
  refine List.map_congr_left fun x _ => ?_
  show (((sclF m fs).getD x 0 : Nat) : Int) = ((fs.getD x 0 : Nat) : Int) * m
  rw [sclF_at, Int.natCast_mul]
theorem usedW_scl (m : Int) (c : List Nat) (wid : Wid) : usedW c (sclR m wid) = usedW c wid * m := by
  unfold usedW sclR
  rw [List.filter_map, List.map_map, ← sum_mulI, List.map_map]
  rfl
theorem rest_scl (c : List Nat) : rest (sclF m fs) (sclS m S) c = rest fs S c * m := by
  unfold rest
  rw [fineS_scl]
  show fineS fs c * m * 4096 - usedW c (sclR m S.wid) = _
  rw [usedW_scl, Int.sub_mul, Int.mul_right_comm]
theorem pos_scl (h : 0 < m) (z : Int) : 0 < z * (m : Int) ↔ 0 < z := by
  constructor
  · intro q
    rcases Int.lt_or_le 0 z with y | y
    · exact y
    · have := Int.mul_nonpos_of_nonpos_of_nonneg y (show (0 : Int) ≤ (m : Int) by omega)
      omega
  · intro q
    exact Int.mul_pos q (by omega)
theorem awk_scl (h : 0 < m) : awk n root (sclF m fs) (sclS m S) = awk n root fs S := by
  unfold awk
  refine List.filter_congr fun r _ => ?_
  show (decide (root ∉ cls S.h n r) && decide (0 < rest (sclF m fs) (sclS m S) (cls S.h n r))) = _
  rw [rest_scl]
  congr 1
  exact decide_eq_decide.mpr (pos_scl h _)
theorem candB_scl {t b : Nat} (G : GB n ws t b S) (ht : t < 12) (R : List Nat) {c : Nat} (hs : 0 < spd ws S R c) : cand (sclW m ws) (sclS m S) R c = cand ws S R c * m := by
  have e := (G.cand_eq ht R hs).1
  have : cand (sclW m ws) (sclS m S) R c = lack ws S c * m / (spd ws S R c : Int) := by unfold cand; rw [lack_scl, spd_scl]
  rw [this, ← e, Int.mul_right_comm]
  exact Int.mul_ediv_cancel _ (by omega)
theorem spanF_scl {t b : Nat} (h : 0 < m) (G : GB n ws t b S) (ht : t < 12) : spanF n root (sclF m fs) (sclW m ws) (sclS m S) = spanF n root fs ws S * m := by
  unfold spanF
  rw [awk_scl h, canW_scl]
  have e : (canW ws S (awk n root fs S)).map (cand (sclW m ws) (sclS m S) (awk n root fs S)) = ((canW ws S (awk n root fs S)).map (cand ws S (awk n root fs S))).map (· * (m : Int)) := by
    rw [List.map_map]
    exact List.map_congr_left fun c hc => candB_scl G ht _ (mem_canW.mp hc).2.2
  have e1 : (awk n root fs S).map (fun r => rest (sclF m fs) (sclS m S) (cls (sclS m S).h n r)) = ((awk n root fs S).map fun r => rest fs S (cls S.h n r)).map (· * (m : Int)) := by
    rw [List.map_map]
    exact List.map_congr_left fun r _ => rest_scl _
  rw [e, e1]
  have e2 := fold_scl h ((canW ws S (awk n root fs S)).map (cand ws S (awk n root fs S))) none
  unfold least
  rw [show (((canW ws S (awk n root fs S)).map (cand ws S (awk n root fs S))).map (· * (m : Int))).foldl less1 none = _ from e2, fold_scl h]
  cases List.foldl less1 (List.foldl less1 none ((canW ws S (awk n root fs S)).map (cand ws S (awk n root fs S)))) ((awk n root fs S).map fun r => rest fs S (cls S.h n r)) with
  | none => show (0 : Int) = 0 * m; omega
  | some x => rfl
theorem note1_scl (h : 0 < m) (l : Keys) (c : List Nat) : note1 root (sclF m fs) (sclS m S) l c = note1 root fs S l c := by
  unfold note1
  rw [rest_scl]
  have : (root ∉ c ∧ ¬ 0 < rest fs S c * (m : Int) ∧ c ∉ l) ↔ (root ∉ c ∧ ¬ 0 < rest fs S c ∧ c ∉ l) := by rw [pos_scl h]
  by_cases q : root ∉ c ∧ ¬ 0 < rest fs S c ∧ c ∉ l
  · rw [if_pos q, if_pos (this.mpr q)]
  · rw [if_neg q, if_neg fun z => q (this.mp z)]
theorem noteL_scl (h : 0 < m) : ∀ (cs l : Keys), noteL root (sclF m fs) (sclS m S) l cs = noteL root fs S l cs
  | [], l => rfl
  | c :: cs, l => by
    show noteL root (sclF m fs) (sclS m S) (note1 root (sclF m fs) (sclS m S) l c) cs = noteL root fs S (note1 root fs S l c) cs
    rw [note1_scl h, noteL_scl h cs]
theorem born_scl (h : 0 < m) : ∀ (k : Nat) (S : Gs), born (sclW m ws) n k (sclS m S) = born ws n k S
  | 0, S => rfl
  | k + 1, S => by
    show (match first (sclW m ws) (sclS m S) with | none => [] | some c => cls (take1 (sclW m ws) (sclS m S) c).h n (way (sclW m ws) c).1 :: born (sclW m ws) n k (take1 (sclW m ws) (sclS m S) c)) = (match first ws S with | none => [] | some c => cls (take1 ws S c).h n (way ws c).1 :: born ws n k (take1 ws S c))
    rw [first_scl h]
    cases first ws S with
    | none => rfl
    | some c =>
      show cls (take1 (sclW m ws) (sclS m S) c).h n (way (sclW m ws) c).1 :: born (sclW m ws) n k (take1 (sclW m ws) (sclS m S) c) = cls (take1 ws S c).h n (way ws c).1 :: born ws n k (take1 ws S c)
      rw [take1_scl, born_scl h k, way_scl]; rfl
theorem turnF_scl {t b : Nat} {nt : Keys} (h : 0 < m) (G : GB n ws t b S) (ht : t < 12) : turnF n root (sclF m fs) (sclW m ws) (sclS m S, nt) = (sclS m (turnF n root fs ws (S, nt)).1, (turnF n root fs ws (S, nt)).2) := by
  unfold turnF
  dsimp only
  rw [awk_scl h, spanF_scl h G ht, grow_scl, takeAll_scl h, born_scl h, noteL_scl h, noteL_scl h]
  rfl
theorem groF_scl (h : 0 < m) (W : WsOk n ws) (hb : ∀ f ∈ fs, f ≤ 10000) : ∀ (k t b : Nat) (S : Gs) (nt : Keys), FI n root fs ws t b S → groF n root (sclF m fs) (sclW m ws) k (sclS m S, nt) = (sclS m (groF n root fs ws k (S, nt)).1, (groF n root fs ws k (S, nt)).2)
  | 0, t, b, S, nt, _ => rfl
  | k + 1, t, b, S, nt, F => by
    by_cases hA : awk n root fs S = []
    · rw [groF_stop (Q := (S, nt)) hA, groF_stop (Q := (sclS m S, nt)) (by show awk n root (sclF m fs) (sclS m S) = []; rw [awk_scl h]; exact hA)]
    · have e : groF n root fs ws (k + 1) (S, nt) = groF n root fs ws k (turnF n root fs ws (S, nt)) := if_neg hA
      have e' : groF n root (sclF m fs) (sclW m ws) (k + 1) (sclS m S, nt) = groF n root (sclF m fs) (sclW m ws) k (turnF n root (sclF m fs) (sclW m ws) (sclS m S, nt)) := if_neg (by show ¬ awk n root (sclF m fs) (sclS m S) = []; rw [awk_scl h]; exact hA)
      obtain ⟨ht, t', F2, _⟩ := F.turn W hb hA
      rw [e, e', turnF_scl h F.m.g ht]
      exact groF_scl h W hb k t' (b + 12) _ _ F2
theorem allF_scl (h : 0 < m) (W : WsOk n ws) (hb : ∀ f ∈ fs, f ≤ 10000) : allF n root (sclF m fs) (sclW m ws) = (sclS m (allF n root fs ws).1, (allF n root fs ws).2) := by
  have e : sclS m start = start := by
    show Gs.mk _ (fun _ => (0 : Int) * m) [] (0 * m) [] = Gs.mk _ (fun _ => 0) [] 0 []
    rw [Int.zero_mul]
    rfl
  have h1 := groF_scl (root := root) h W hb (2 * n) 0 0 start (noteL root fs start [] ((reps start.h n).map (cls start.h n))) (FI.start W)
  have h2 := noteL_scl (S := start) (root := root) (fs := fs) h ((reps start.h n).map (cls start.h n)) []
  rw [e] at h1 h2
  unfold allF
  rw [h2]
  exact h1
theorem ends_scl (g : List Nat) (c : Nat) : ends (sclW m ws) g c = ends ws g c := by
  unfold ends; rw [way_scl]
theorem cutOff_scl (notes : Keys) : ∀ (j : Nat) (kept : List Nat), cutOff (sclW m ws) notes j kept = cutOff ws notes j kept
  | 0, kept => rfl
  | j + 1, kept => by
    have e1 : fstCut (sclW m ws) notes kept = fstCut ws notes kept := by
      unfold fstCut leads
      congr 1
      funext g
      simp only [ends_scl]
    have e2 : ∀ g, cutS (sclW m ws) kept g = cutS ws kept g := fun g => by
      unfold cutS
      simp only [ends_scl]
    cases h : fstCut ws notes kept with
    | none => rw [cutOff_stop h, cutOff_stop (by rw [e1]; exact h)]
    | some g => rw [cutOff_go h, cutOff_go (by rw [e1]; exact h), e2, cutOff_scl notes j]
theorem chF_scl (h : 0 < m) (W : WsOk n ws) (hb : ∀ f ∈ fs, f ≤ 10000) : chF n root (sclF m fs) (sclW m ws) = chF n root fs ws := by
  have e : keptF n root (sclF m fs) (sclW m ws) = keptF n root fs ws := by
    unfold keptF
    rw [allF_scl h W hb]
    have : kept0 n root (sclW m ws) (sclS m (allF n root fs ws).1) = kept0 n root ws (allF n root fs ws).1 := by
      unfold kept0
      rw [tkn_scl]
      refine List.filter_congr fun c _ => ?_
      rw [ends_scl]; rfl
    dsimp only
    rw [this, cutOff_scl]
  unfold chF
  rw [len_scl, e]
theorem chF_eq {gs : List Nat} (h : ∀ x, x ≠ root → fs.getD x 0 = gs.getD x 0) : chF n root fs ws = chF n root gs ws := by
  unfold chF keptF
  rw [allF_eq h]
end
end Mw

set_option Elab.async false
set_option linter.all false
set_option maxRecDepth 100000
set_option maxHeartbeats 4000000
namespace Mw
open PySem PySem.Spec PyProof.Rows L2 GE
theorem sort_sub {ns : List Int} {f l : List Nat} (h : ns.Perm (f.map fun x : Nat => (x : Int))) (s : ns.Pairwise (· ≤ ·)) (nd : f.Nodup) (pl : l.Pairwise (· < ·)) (hl : ∀ x, x ∈ l ↔ x ∈ f) : ns = l.map fun x : Nat => (x : Int) := sort_all h s nd pl hl
theorem fj_len {n root : Nat} {fs : List Nat} {ws : Wl} (W : Wf n ws) (F : FnOkF n fs) : (allF n root fs ws).1.taken.length ≤ n := by
  obtain ⟨t, b, m, J⟩ := allF_J (root := root) (wf_ok W) F.bd
  have := J.tk
  omega
section
variable {P : Program} {w : World} {K : PySem.W.Frag} {mg : Str → Option Value} {base : Heap} {T : List Addr} {aC aD : Addr}
theorem ok_reach {f : Addr} {fd : FuncData} (F : Fun K "reach" "reach" sreach f fd) (m_tuple : mg "tuple" = none) (m_sorted : mg "sorted" = none) {fFineGrowth___init__ : Addr} {fdFineGrowth___init__ : FuncData} (FFineGrowth___init__ : Fun K "__init__" "FineGrowth.__init__" sFineGrowth___init__ fFineGrowth___init__ fdFineGrowth___init__) (GFineGrowth___init__ : FnOk P w K mg base CX0 9 fFineGrowth___init__ fdFineGrowth___init__ ["self", "net", "root", "fines"] (spFInit K T aC aD)) (bFineGrowth___init__ : Binds K fdFineGrowth___init__ ["self", "net", "root", "fines"] []) (MFineGrowth : Mk K aD fFineGrowth___init__) {f_group_of : Addr} {fd_group_of : FuncData} (F_group_of : Fun K "_group_of" "_group_of" s_group_of f_group_of fd_group_of) (G_group_of : FnOk P w K mg base CX0 10 f_group_of fd_group_of ["place", "found"] (spGroupOf T)) (b_group_of : Binds K fd_group_of ["place", "found"] []) (g_group_of : mg "_group_of" = some (.ref f_group_of)) {fField_groups_now : Addr} {fdField_groups_now : FuncData} (FField_groups_now : Fun K "groups_now" "Field.groups_now" sField_groups_now fField_groups_now fdField_groups_now) (GField_groups_now : FnOk P w K mg base CX0 10 fField_groups_now fdField_groups_now ["self"] (spNow K T aC)) (bField_groups_now : Binds K fdField_groups_now ["self"] []) (mmField_groups_now : Meth K aC "groups_now" fField_groups_now) {f_left : Addr} {fd_left : FuncData} (F_left : Fun K "_left" "_left" s_left f_left fd_left) (G_left : FnOk P w K mg base CX0 10 f_left fd_left ["net", "root", "choice"] (spLeft T)) (b_left : Binds K fd_left ["net", "root", "choice"] []) (g_left : mg "_left" = some (.ref f_left)) {f_cut_off : Addr} {fd_cut_off : FuncData} (F_cut_off : Fun K "_cut_off" "_cut_off" s_cut_off f_cut_off fd_cut_off) (G_cut_off : FnOk P w K mg base CX0 10 f_cut_off fd_cut_off ["net", "notes", "kept"] (spCutOff K T)) (b_cut_off : Binds K fd_cut_off ["net", "notes", "kept"] []) (g_cut_off : mg "_cut_off" = some (.ref f_cut_off)) {f_ends_within : Addr} {fd_ends_within : FuncData} (F_ends_within : Fun K "_ends_within" "_ends_within" s_ends_within f_ends_within fd_ends_within) (G_ends_within : FnOk P w K mg base CX0 10 f_ends_within fd_ends_within ["net", "way", "places"] (spEnds K T)) (b_ends_within : Binds K fd_ends_within ["net", "way", "places"] []) (g_ends_within : mg "_ends_within" = some (.ref f_ends_within)) (fx : FTx K aC) (fy : FYx K aD) (gFineGrowth : mg "FineGrowth" = some (.ref aD)) : FnOk P w K mg base CX0 11 f fd ["net", "root", "fines"] (spReach K T aC aD) := by
  refine F.ok screach (fun vs H Q E h => ?_) (fun cdv A outer s H vs Q E hr h => ?_)
  · obtain ⟨net, fv, n, root, fs, ws, rfl, W, hnet, hfv, F, rn, wd, k⟩ := h
    rfl
  · obtain ⟨net, fv, n, root, fs, ws, rfl, W, hnet, hfv, F, rn, wd, k⟩ := h
    refine ⟨_, (pss_cons (ps_set (i := 3) screach.nd rfl (Or.inl rfl) (pe_make MFineGrowth GFineGrowth___init__ hr (by rfl) gFineGrowth bFineGrowth___init__ .nil pass0 (pa_cons (pv 0) (pa_cons (pv 1) (pa_cons (pv 2) pa_nil)))))
      (pss_cons (ps_set (i := 4) screach.nd rfl (Or.inr rfl) (pe_call G_group_of hr (by rfl) g_group_of F_group_of.kp b_group_of .nil pass0 (pa_cons (pv 1) (pa_cons (pe_meth0 (pe_fld (pv 3) rfl) fx.cl mmField_groups_now GField_groups_now hr bField_groups_now .nil pass0) pa_nil))))
      (pss_cons (ps_setLc (i := 5) (own := [("_", 6), ("way", 7)]) (tt := tYes) rfl screach.nd rfl rfl (sw_true rfl rfl rfl (by decide +kernel)) (pi_list (pe_fld (pe_fld (pv 3) rfl) rfl)) (blkOk_by (own := [("_", 6), ("way", 7)]) (N := ["net", "root", "fines", "grown", "home", "taken", "_", "way", "kept", "choice"]) (sc := defScope sreach) (by decide +kernel)) (fun _ _ _ _ _ => (GE.pg_tupK (K := K) 2 (pgs_cons (pg_name (i := 6) screach.nd rfl (Or.inl rfl)) (pgs_cons (pg_name (i := 7) screach.nd rfl (Or.inl rfl)) pgs_nil)))) (fun _ _ _ _ _ => pts_nil) (fun _ _ _ _ _ => (pv 7)))
      (pss_cons (ps_setLc (i := 8) (own := [("way", 7)]) (g := (gName 7)) rfl screach.nd rfl rfl (sw_true rfl rfl rfl (by decide +kernel)) (pi_list (pv 5)) (blkOk_by (own := [("way", 7)]) (N := ["net", "root", "fines", "grown", "home", "taken", "_", "way", "kept", "choice"]) (sc := defScope sreach) (by decide +kernel)) (fun _ _ _ _ _ => (pg_name (i := 7) screach.nd rfl (Or.inl rfl))) (fun _ _ _ _ _ => (pts_one (pt_cmpR op_eq (pe_call G_ends_within hr (by rfl) g_ends_within F_ends_within.kp b_ends_within .nil pass0 (pa_cons (pv 0) (pa_cons (pv 7) (pa_cons (pv 4) pa_nil)))) pe_int (nomark _)))) (fun _ _ _ _ _ => (pv 7)))
      (pss_cons (ps_set (i := 9) screach.nd rfl (Or.inl rfl) (pe_callTy call_tuple_of (by rfl) m_tuple (by decide +kernel) (pa_cons (pe_callB cr_sorted (by rfl) m_sorted (by decide +kernel) (pa_cons (pe_call G_cut_off hr (by rfl) g_cut_off F_cut_off.kp b_cut_off .nil pass0 (pa_cons (pv 0) (pa_cons (pe_fld (pv 3) rfl) (pa_cons (pv 8) pa_nil)))) pa_nil)) pa_nil)))
      (pss_one (ps_ret (pe_tup (pa_cons (pv 9) (pa_cons (pe_call G_left hr (by rfl) g_left F_left.kp b_left .nil pass0 (pa_cons (pv 0) (pa_cons (pv 1) (pa_cons (pv 9) pa_nil)))) pa_nil)))))))))), ?_⟩
    have Wo := wf_ok W
    have n12 := W.n12
    obtain ⟨t, b, mm, J⟩ := allF_J (root := root) Wo F.bd
    have O := J.ok W F rn
    obtain ⟨c1, c2, c3, c4, c5⟩ := chF_ok (root := root) (fs := fs) W
    have TK := allF_tk (root := root) (fs := fs) W
    refine ⟨_, rfl, _, rfl, _, rfl, fun x dx nx ndx nex => ?_⟩
    have nxd : (upd H dx (.own x)) x = none := by rw [upd_ne (by first | exact nex | exact fun z => nex z.symm)]; exact nx
    have e2 : Ext T noM H (upd (upd H dx (.own x)) x (.ins aD dx [])) := (Ext.new ndx).trans (Ext.new nxd)
    refine ⟨x, dx, net, fv, n, root, fs, ws, rfl, upd_same, W, Rp.x e2 hnet, Rp.x e2 hfv, F, rn, wd.ext e2, fun g H2 gp FG e3 hM => ⟨rfl, ?_⟩⟩
    have d2 : Ext T noM H H2 := e2.drop e3 fun b hb => by rw [hb]; exact nx
    subst gp
    obtain ⟨dg, hob⟩ := FG.ob
    obtain ⟨dy, tv, hfo, _⟩ := FG.fd.ob
    obtain ⟨es, HM⟩ := O.m.g.hom
    generalize hS : (allF n root fs ws).1 = S at *
    generalize hN : (allF n root fs ws).2 = nt at *
    refine ⟨_, rfl, _, rfl, g.p, aD, dg, _, _, rfl, hob, fy.cl, fy.n_field, gf_field _ _, g.f.p, dy, _, rfl, hfo, by rfl, g.f, n, t, ws, S, rfl, FG.fd, O.m.g, n12, wd.ext d2, fun gv H3 RV e3' => ?_⟩
    have F3 := FG.x e3'
    refine ⟨root, n, S.h, es, gv, rfl, RV.grp, HM, rn, n12, fun ga H4 hga e4 => ?_⟩
    have e34 := e3'.trans e4
    have F4 := FG.x e34
    have d4 := d2.trans e34
    obtain ⟨dg4, hob4⟩ := F4.ob
    obtain ⟨dy4, tv4, hfo4, _⟩ := F4.fd.ob
    obtain ⟨vt, hlt, htk⟩ := F4.fd.tk
    have hvl := htk.len
    have htl : S.taken.length ≤ n := by have := J.tk; omega
    have htn : (tkn S).length = S.taken.length := by unfold tkn; rw [List.length_map]
    refine ⟨_, rfl, g.p, aD, dg4, _, _, rfl, hob4, fy.cl, fy.n_field, gf_field _ _, g.f.p, aC, dy4, _, _, rfl, hfo4, fx.cl, fx.n_taken, ff_taken _ _, g.f.lt, rfl, ⟨_, SqL.of hlt⟩, fun Dl hD => ?_⟩
    refine lc_list (xs := vt) (fun j H' => Ext T noM H4 H' ∧ H' Dl = some (.lst (natsV ((tkn S).take j)))) ⟨Ext.new hD, upd_same⟩ (fun j H' _ p => SqL.of (p.1.lst (fun z => z) hlt)) ?_ ?_
    · rintro j x H5 hx ⟨e5, hD5⟩
      have hj : j < S.taken.length := by have := (List.getElem?_eq_some_iff.mp hx).1; omega
      obtain ⟨⟨tt, c⟩, htc⟩ : ∃ q, S.taken[j]? = some q := ⟨_, List.getElem?_eq_getElem hj⟩
      obtain ⟨xa, tw, q1, q2⟩ := htk.at_ htc
      rw [hx] at q1
      obtain rfl := Option.some.inj q1
      have hFj : (tkn S)[j]? = some c := by unfold tkn; rw [List.getElem?_map, htc]; rfl
      refine ⟨xa, _, rfl, SqT.of (e5.tup (fun z => z) q2), rfl, _, _, rfl, _, _, rfl, rfl, rfl, tYesI ?_⟩
      refine ⟨_, rfl, _, hD5, ?_, e5.mut (.inl hD) hD5 ltbl, ?_⟩
      · unfold natsV; rw [List.length_map, List.length_take]; exact small1000 (by omega)
      · rw [upd_same, take_succ' hFj]; unfold natsV; rw [List.map_append]; rfl
    rintro H5 ⟨e5, hD5⟩
    rw [hvl, ← htn, List.take_length] at hD5
    have hkv : (natsV (tkn S)).length = (tkn S).length := by unfold natsV; rw [List.length_map]
    have d5 := d4.trans e5
    have hga5 := e5.tup (fun z => z) hga
    refine ⟨_, rfl, Dl, rfl, ⟨_, SqL.of hD5⟩, fun Dk hDk => ?_⟩
    refine lc_list (xs := natsV (tkn S)) (fun j H' => Ext T noM H5 H' ∧ H' Dk = some (.lst (natsV (((tkn S).take j).filter fun c => decide (ends ws (cls S.h n root) c = 2))))) ⟨Ext.new hDk, upd_same⟩ (fun j H' _ p => SqL.of (p.1.lst (fun z => z) hD5)) ?_ ?_
    · rintro j x H6 hx ⟨e6, hD6⟩
      have hj : j < (tkn S).length := by have := (List.getElem?_eq_some_iff.mp hx).1; omega
      have hkj : (tkn S)[j]? = some (tkn S)[j] := List.getElem?_eq_getElem hj
      have ex : x = .int (((tkn S)[j] : Nat) : Int) := by
        unfold natsV at hx
        rw [List.getElem?_map, hkj] at hx
        exact (Option.some.inj hx).symm
      subst ex
      have hsn : ((tkn S).take (j + 1)).filter (fun c => decide (ends ws (cls S.h n root) c = 2)) = ((tkn S).take j).filter (fun c => decide (ends ws (cls S.h n root) c = 2)) ++ if ends ws (cls S.h n root) (tkn S)[j] = 2 then [(tkn S)[j]] else [] := by
        rw [take_succ' hkj, List.filter_append]; by_cases z : ends ws (cls S.h n root) (tkn S)[j] = 2 <;> simp [z]
      have hfl := List.length_filter_le (fun c => decide (ends ws (cls S.h n root) c = 2)) ((tkn S).take j)
      rw [List.length_take] at hfl
      have d6 := d5.trans e6
      refine ⟨rfl, _, rfl, _, rfl, _, rfl, net, ga, n, (tkn S)[j], ws, cls S.h n root, rfl, Rp.x d6 hnet, TK.lt _ (List.getElem_mem hj), SqT.of (e6.tup (fun z => z) hga5), fun H7 e7 => ⟨rfl, _, rfl, ?_⟩⟩
      have hD7 := e7.lst (fun z => z) hD6
      have dec : decide (V.int ((ends ws (cls S.h n root) (tkn S)[j] : Nat) : Int) = V.int 2) = decide (ends ws (cls S.h n root) (tkn S)[j] = 2) := decide_eq_decide.mpr (vint_inj (b := 2))
      rw [dec]
      refine ite2 (fun q => ?_) (fun q => ?_)
      · rw [if_pos (of_decide_eq_true q)] at hsn
        refine ⟨_, rfl, _, hD7, ?_, (e6.trans e7).mut (.inl hDk) hD7 ltbl, ?_⟩
        · unfold natsV; rw [List.length_map]; exact small1000 (by omega)
        · rw [upd_same, hsn]; unfold natsV; rw [List.map_append]; rfl
      · rw [if_neg (fun z => q (decide_eq_true z)), List.append_nil] at hsn
        exact ⟨e6.trans e7, by rw [hsn]; exact hD7⟩
    rintro H6 ⟨e6, hD6⟩
    rw [hkv, List.take_length] at hD6
    have hD6 : H6 Dk = some (.lst (natsV (kept0 n root ws S))) := hD6
    have d6 := d5.trans e6
    have e46 := e5.trans e6
    have F6 := F4.x e46
    obtain ⟨dg6, hob6⟩ := F6.ob
    obtain ⟨nvs, hn1, hn2⟩ := F6.nt
    have k0l : (kept0 n root ws S).length ≤ 24 := by
      have := List.length_filter_le (fun c => decide (ends ws (cls S.h n root) c = 2)) (tkn S)
      unfold kept0; omega
    have hkF : keptF n root fs ws = cutOff ws nt (kept0 n root ws S).length (kept0 n root ws S) := by unfold keptF; rw [hS, hN]
    refine ⟨_, rfl, _, rfl, g.p, aD, dg6, _, _, rfl, hob6, fy.cl, fy.n_notes, gf_notes _ _, _, rfl, net, g.ln, Dk, nvs, n, ws, nt, kept0 n root ws S, rfl, Rp.x d6 hnet, hn1, hn2, hD6, fun c hc => TK.lt c (List.mem_filter.mp hc).1, k0l, fun l H7 hl e7 => ?_⟩
    rw [← hkF] at hl
    have hl' := hl
    rw [show natsV (keptF n root fs ws) = ((keptF n root fs ws).map fun x : Nat => (x : Int)).map V.int from by unfold natsV; rw [List.map_map]; rfl] at hl'
    have kfl : (keptF n root fs ws).length ≤ 24 := by
      have h1 := sub_len c1 (m := chF n root fs ws) fun x hx => (c5 x).mpr hx
      have h2 := c4.len
      have := W.ln
      omega
    refine ⟨l, _, rfl, SqL.of hl', by rw [List.length_map]; omega, fun ns lq hperm hsort hlq => ?_⟩
    have ens := sort_sub hperm hsort c1 c4.asc c5
    subst ens
    have eS : ((chF n root fs ws).map fun x : Nat => (x : Int)).map V.int = natsV (chF n root fs ws) := by unfold natsV; rw [List.map_map]; rfl
    rw [eS]
    have e8 : Ext T noM H7 (upd H7 lq (.lst (natsV (chF n root fs ws)))) := Ext.new hlq
    have hq8 : (upd H7 lq (.lst (natsV (chF n root fs ws)))) lq = some (.lst (natsV (chF n root fs ws))) := upd_same
    generalize (upd H7 lq (.lst (natsV (chF n root fs ws)))) = H8 at e8 hq8 ⊢
    refine ⟨lq, _, rfl, .inl ⟨SqL.of hq8, fun tq htq => ?_⟩⟩
    have e9 : Ext T noM H8 (upd H8 tq (.tup (natsV (chF n root fs ws)))) := Ext.new htq
    have hk9 : (upd H8 tq (.tup (natsV (chF n root fs ws)))) tq = some (.tup (natsV (chF n root fs ws))) := upd_same
    generalize (upd H8 tq (.tup (natsV (chF n root fs ws)))) = H9 at e9 hk9 ⊢
    have d9 := d6.trans (e7.trans (e8.trans e9))
    refine ⟨_, rfl, _, rfl, _, rfl, _, rfl, net, .ref tq, root, n, ws, chF n root fs ws, rfl, ⟨W, c4, Rp.x d9 hnet, rp_ch hk9⟩, rn, wd.ext d9, fun la HA hla eA => ?_⟩
    refine ⟨by show 2 ≤ sizeLine; decide, fun ra hra => ?_⟩
    have eB : Ext T noM HA (upd HA ra (.tup [.ref tq, .ref la])) := Ext.new hra
    exact k ra tq la _ upd_same ((eA.trans eB).tup (fun z => z) hk9) (eB.tup (fun z => z) hla) (d9.trans (eA.trans eB))
theorem ok_fine_moats {f : Addr} {fd : FuncData} (F : Fun K "fine_moats" "fine_moats" sfine_moats f fd) {fField_paper : Addr} {fdField_paper : FuncData} (FField_paper : Fun K "paper" "Field.paper" sField_paper fField_paper fdField_paper) (GField_paper : FnOk P w K mg base CX0 10 fField_paper fdField_paper ["self"] (spPaper K T aC)) (bField_paper : Binds K fdField_paper ["self"] []) (mmField_paper : Meth K aC "paper" fField_paper) {fFineGrowth___init__ : Addr} {fdFineGrowth___init__ : FuncData} (FFineGrowth___init__ : Fun K "__init__" "FineGrowth.__init__" sFineGrowth___init__ fFineGrowth___init__ fdFineGrowth___init__) (GFineGrowth___init__ : FnOk P w K mg base CX0 9 fFineGrowth___init__ fdFineGrowth___init__ ["self", "net", "root", "fines"] (spFInit K T aC aD)) (bFineGrowth___init__ : Binds K fdFineGrowth___init__ ["self", "net", "root", "fines"] []) (MFineGrowth : Mk K aD fFineGrowth___init__) (fx : FTx K aC) (fy : FYx K aD) (gFineGrowth : mg "FineGrowth" = some (.ref aD)) : FnOk P w K mg base CX0 11 f fd ["net", "root", "fines"] (spFMoats K T aC aD) := by
  refine F.ok scfine_moats (fun vs H Q E h => ?_) (fun cdv A outer s H vs Q E hr h => ?_)
  · obtain ⟨net, fv, n, root, fs, ws, rfl, W, hnet, hfv, F, rn, wd, k⟩ := h
    rfl
  · obtain ⟨net, fv, n, root, fs, ws, rfl, W, hnet, hfv, F, rn, wd, k⟩ := h
    refine ⟨_, (pss_one (ps_ret (pe_meth0 (pe_fld (pe_make MFineGrowth GFineGrowth___init__ hr (by rfl) gFineGrowth bFineGrowth___init__ .nil pass0 (pa_cons (pv 0) (pa_cons (pv 1) (pa_cons (pv 2) pa_nil)))) rfl) fx.cl mmField_paper GField_paper hr bField_paper .nil pass0))), ?_⟩
    have Wo := wf_ok W
    have n12 := W.n12
    obtain ⟨t, b, mm, J⟩ := allF_J (root := root) Wo F.bd
    have O := J.ok W F rn
    refine ⟨_, rfl, _, rfl, _, rfl, fun x dx nx ndx nex => ?_⟩
    have nxd : (upd H dx (.own x)) x = none := by rw [upd_ne (by first | exact nex | exact fun z => nex z.symm)]; exact nx
    have e2 : Ext T noM H (upd (upd H dx (.own x)) x (.ins aD dx [])) := (Ext.new ndx).trans (Ext.new nxd)
    refine ⟨x, dx, net, fv, n, root, fs, ws, rfl, upd_same, W, Rp.x e2 hnet, Rp.x e2 hfv, F, rn, wd.ext e2, fun g H2 gp FG e3 hM => ⟨rfl, ?_⟩⟩
    have d2 : Ext T noM H H2 := e2.drop e3 fun b hb => by rw [hb]; exact nx
    subst gp
    obtain ⟨dg, hob⟩ := FG.ob
    obtain ⟨dy, tv, hfo, _⟩ := FG.fd.ob
    refine ⟨g.p, aD, dg, _, _, rfl, hob, fy.cl, fy.n_field, gf_field _ _, g.f.p, dy, _, rfl, hfo, by rfl, g.f, n, t, ws, _, rfl, FG.fd, O.m.g, O.nd, O.wl, wd.ext d2, fun rs v H3 PO hv e3' => ?_⟩
    exact k rs v H3 PO hv (d2.trans e3')
end
end Mw

set_option Elab.async false
set_option linter.all false
set_option maxRecDepth 100000
set_option maxHeartbeats 4000000
namespace Mw
open PySem PySem.Spec PyProof.Rows L2 GE
theorem op_notInDK {X : Cx} {K : PySem.W.Frag} (hu : X.A.units + 65 < cLine) (h : X.K = K := by rfl) : OpR X (compareOp .NotIn) (rNotInD K) := h ▸ op_notInD hu
/-- the law's rests -/
def restL (fs c : List Nat) (wid : Wid) : Int := fineS fs c * 4096 - usedW c wid
theorem rest_L (fs : List Nat) (S : Gs) (c : List Nat) : rest fs S c = restL fs c S.wid := rfl
def outK (k c : List Nat) : List Nat := k.filter fun x => decide (x ∉ c)
theorem outK_nil {k c : List Nat} : (outK k c).length = 0 ↔ inK k c = true := by
  rw [inK_iff]
  constructor
  · intro h x hx
    refine Classical.byContradiction fun z => ?_
    have : x ∈ outK k c := List.mem_filter.mpr ⟨hx, decide_eq_true z⟩
    rw [List.eq_nil_of_length_eq_zero h] at this
    cases this
  · intro h
    have : outK k c = [] := List.filter_eq_nil_iff.mpr fun x hx => by
      rw [decide_eq_false (fun z => z (h x hx))]; exact Bool.false_ne_true
    rw [this]; rfl
structure WidOk (n : Nat) (wid : Wid) : Prop where
  nd : (wid.map (·.1)).Nodup
  wl : wid.length ≤ 300
  kl : ∀ kw ∈ wid, kw.1.length ≤ 12
def spLRest (T : List Addr) : Sp := fun vs H Q _ => ∃ (fv : V) (d b : Addr) (n : Nat) (fs c : List Nat) (wid : Wid), vs = [fv, .ref d, .ref b] ∧ Rp H (finD fs) fv ∧ FnOkF n fs ∧ H d = some (.dT (widK wid)) ∧ WidOk n wid ∧ H b = some (.tup (natsV c)) ∧ (∀ x ∈ c, x < n) ∧ c.length ≤ 12 ∧
  ∀ H', Ext T noM H H' → Q (.int (restL fs c wid * 268435456)) H'
def spLAwake (T : List Addr) : Sp := fun vs H Q _ => ∃ (fv : V) (d l : Addr) (n root : Nat) (fs : List Nat) (S : Gs), vs = [.int (root : Nat), fv, .ref d, .ref l] ∧ Rp H (finD fs) fv ∧ FnOkF n fs ∧ n ≤ 12 ∧ H d = some (.dT (widK S.wid)) ∧ WidOk n S.wid ∧ GrL H n S.h (reps S.h n) l ∧
  ∀ r H', GrL H' n S.h (awk n root fs S) r → H r = none → Ext T noM H H' → Q (.ref r) H'
def spLSpan (T : List Addr) : Sp := fun vs H Q _ => ∃ (net fv : V) (l d sl : Addr) (n root t : Nat) (fs : List Nat) (ws : Wl) (S : Gs), vs = [net, fv, .ref l, .ref d, .ref sl] ∧ LSt H n ws S net l d ∧ Wf n ws ∧ GB n ws t 300 S ∧ t < 12 ∧ GrL H n S.h (awk n root fs S) sl ∧ Rp H (finD fs) fv ∧ FnOkF n fs ∧ WidOk n S.wid ∧ first ws S = none ∧ awk n root fs S ≠ [] ∧
  ∀ H', Ext T noM H H' → Q (.int (spanF n root fs ws S * 268435456)) H'
def spLNoted (T : List Addr) : Sp := fun vs H Q _ => ∃ (fv : V) (d pl nl : Addr) (pvs nvs : List V) (n root : Nat) (fs : List Nat) (S : Gs) (ls nt : Keys), vs = [.int (root : Nat), fv, .ref d, .ref pl, .ref nl] ∧ Rp H (finD fs) fv ∧ FnOkF n fs ∧ n ≤ 12 ∧ H d = some (.dT (widK S.wid)) ∧ WidOk n S.wid ∧ H pl = some (.lst pvs) ∧ TupsL H ls pvs ∧ H nl = some (.lst nvs) ∧ TupsL H nt nvs ∧ ls.Nodup ∧ (∀ l ∈ ls, l.length ≤ 12 ∧ ∀ x ∈ l, x < n) ∧ (∀ l ∈ ls, root ∉ l → 0 ≤ rest fs S l) ∧ ls.length ≤ 24 ∧ nt.length ≤ 900 ∧
  ∀ r vs H', H' r = some (.lst vs) → TupsL H' (noteL root fs S nt ls) vs → H r = none → Ext T noM H H' → Q (.ref r) H'
theorem TupsL.append {H : Hp} {ls ms : Keys} {us vs : List V} (a : TupsL H ls us) (b : TupsL H ms vs) : TupsL H (ls ++ ms) (us ++ vs) := by
  refine ⟨by rw [List.length_append, List.length_append, a.1, b.1], fun i l e => ?_⟩
  by_cases hi : i < ls.length
  · rw [List.getElem?_append_left hi] at e
    obtain ⟨t, q1, q2⟩ := a.2 i l e
    exact ⟨t, by rw [List.getElem?_append_left (by rw [a.1]; exact hi)]; exact q1, q2⟩
  · rw [List.getElem?_append_right (by omega)] at e
    obtain ⟨t, q1, q2⟩ := b.2 _ l e
    exact ⟨t, by rw [List.getElem?_append_right (by rw [a.1]; omega), a.1]; exact q1, q2⟩
def tightL (root : Nat) (fs : List Nat) (S : Gs) (ls : Keys) : Keys := ls.filter fun c => decide (root ∉ c) && decide (rest fs S c = 0)
theorem noteL_law {root : Nat} {fs : List Nat} {S : Gs} : ∀ (ls nt : Keys), ls.Nodup → (∀ l ∈ ls, root ∉ l → 0 ≤ rest fs S l) → noteL root fs S nt ls = nt ++ (tightL root fs S ls).filter fun c => decide (c ∉ nt)
  | [], nt, _, _ => by simp [noteL, tightL]
  | c :: ls, nt, nd, h => by
    obtain ⟨n1, n2⟩ := List.nodup_cons.mp nd
    have ih := noteL_law ls (note1 root fs S nt c) n2 fun l hl => h l (List.mem_cons_of_mem _ hl)
    show noteL root fs S (note1 root fs S nt c) ls = _
    rw [ih]
    have hc := h c List.mem_cons_self
    unfold tightL
    rw [List.filter_cons]
    by_cases q1 : root ∉ c
    · have hc := hc q1
      by_cases q2 : rest fs S c = 0
      · rw [if_pos (by rw [decide_eq_true q1, decide_eq_true q2]; rfl), List.filter_cons]
        by_cases q3 : c ∉ nt
        · rw [if_pos (decide_eq_true q3), note1_in q1 (by omega) q3, List.append_assoc]
          congr 1
          show c :: _ = c :: _
          congr 1
          refine List.filter_congr fun d hd => ?_
          have hdc : d ≠ c := fun e => n1 (e ▸ (List.mem_filter.mp hd).1)
          rw [decide_eq_decide, List.mem_append, List.mem_singleton]
          exact ⟨fun z y => z (.inl y), fun z y => y.elim z hdc⟩
        · rw [if_neg (by rw [decide_eq_false q3]; exact Bool.false_ne_true), note1_out (fun z => q3 z.2.2)]
      · rw [if_neg (by rw [decide_eq_false q2, Bool.and_false]; exact Bool.false_ne_true), note1_out (fun z => z.2.1 (by omega))]
    · rw [if_neg (by rw [decide_eq_false q1]; exact Bool.false_ne_true), note1_out (fun z => q1 z.1)]
theorem spanF_law {n t b root : Nat} {fs : List Nat} {ws : Wl} {S : Gs} (G : GB n ws t b S) (ht : t < 12) (hf : first ws S = none) (hA : awk n root fs S ≠ []) {best : Int} (h1 : ∃ r ∈ awk n root fs S, rest fs S (cls S.h n r) = best) (h2 : ∀ r ∈ awk n root fs S, best ≤ rest fs S (cls S.h n r)) :
    (least ((canW ws S (awk n root fs S)).map (cand ws S (awk n root fs S))) = none → spanF n root fs ws S = best) ∧ ∀ x, least ((canW ws S (awk n root fs S)).map (cand ws S (awk n root fs S))) = some x → spanF n root fs ws S = if x < best then x else best := by
  obtain ⟨x0, hx0, hsp, x0p, hc, hr, hor⟩ := spanF_ok G ht hf hA
  obtain ⟨r1, m1, e1⟩ := h1
  have u1 := hr r1 m1
  rw [hsp]
  constructor
  · intro hn
    rcases hor with ⟨c, k1, k2⟩ | ⟨r, k1, k2⟩
    · exfalso
      have hne : (canW ws S (awk n root fs S)).map (cand ws S (awk n root fs S)) ≠ [] := fun z => by rw [List.map_eq_nil_iff] at z; rw [z] at k1; cases k1
      obtain ⟨y, hy, _⟩ := least_ex hne
      rw [hn] at hy; cases hy
    · have := h2 r k1
      omega
  · intro x hx
    obtain ⟨s1, s2, _⟩ := least_some _ _ _ hx
    have hm : ∃ c ∈ canW ws S (awk n root fs S), cand ws S (awk n root fs S) c = x := by
      rcases s1 with z | z
      · cases z
      · obtain ⟨c, q1, q2⟩ := List.mem_map.mp z
        exact ⟨c, q1, q2⟩
    obtain ⟨c, q1, q2⟩ := hm
    have u2 := hc c q1
    have u3 : x0 = best ∨ (∃ c ∈ canW ws S (awk n root fs S), cand ws S (awk n root fs S) c = x0) := by
      rcases hor with z | ⟨r, k1, k2⟩
      · exact .inr z
      · have := h2 r k1
        exact .inl (by omega)
    split
    · rcases u3 with z | ⟨c', k1, k2⟩
      · omega
      · have := s2 _ (List.mem_map_of_mem k1)
        omega
    · rcases u3 with z | ⟨c', k1, k2⟩
      · omega
      · have := s2 _ (List.mem_map_of_mem k1)
        omega
section
variable {P : Program} {w : World} {K : PySem.W.Frag} {mg : Str → Option Value} {base : Heap} {T : List Addr} {aC aD : Addr}
end
end Mw

set_option Elab.async false
set_option linter.all false
set_option maxRecDepth 100000
set_option maxHeartbeats 4000000
namespace Mw
open PySem PySem.Spec PyProof.Rows L2 GE
theorem GB.widOk {n t : Nat} {ws : Wl} {S : Gs} (G : GB n ws t 300 S) (n12 : n ≤ 12) (nd : (S.wid.map (·.1)).Nodup) (wl : S.wid.length ≤ 300) : WidOk n S.wid := ⟨nd, wl, fun kw hk => by
  obtain ⟨k1, k2, k3⟩ := G.key kw hk
  have h1 : kw.1.length ≤ n := nodup_le (k3.imp fun h => Nat.ne_of_lt h) fun x hx => (k1 x hx).1
  omega⟩
theorem rest_wid {S S' : Gs} (h : S'.wid = S.wid) (fs c : List Nat) : rest fs S' c = rest fs S c := by unfold rest; rw [h]
theorem note1_wid {S S' : Gs} (h : S'.wid = S.wid) (root : Nat) (fs : List Nat) (l : Keys) (c : List Nat) : note1 root fs S' l c = note1 root fs S l c := by unfold note1; rw [rest_wid h]
theorem noteL_wid {S S' : Gs} (h : S'.wid = S.wid) (root : Nat) (fs : List Nat) : ∀ (cs l : Keys), noteL root fs S' l cs = noteL root fs S l cs
  | [], l => rfl
  | c :: cs, l => by
    show noteL root fs S' (note1 root fs S' l c) cs = noteL root fs S (note1 root fs S l c) cs
    rw [note1_wid h, noteL_wid h root fs cs]
/-- what the law keeps of a growth with fines -/
structure LFg (H : Hp) (n : Nat) (ws : Wl) (net : V) (S : Gs) (nt : Keys) (l d lt ln : Addr) : Prop where
  s : LSt H n ws S net l d
  tk : H lt = some (.lst (natsV (tkn S)))
  nt : ∃ vs, H ln = some (.lst vs) ∧ TupsL H nt vs
  n1 : l ≠ lt
  n2 : ln ≠ lt
theorem LFg.x {T : List Addr} {H H' : Hp} {n : Nat} {ws : Wl} {net : V} {S : Gs} {nt : Keys} {l d lt ln : Addr} (G : LFg H n ws net S nt l d lt ln) (e : Ext T noM H H') : LFg H' n ws net S nt l d lt ln := by
  obtain ⟨v1, a1, a2⟩ := G.nt
  exact ⟨G.s.x e, e.lst (fun z => z) G.tk, ⟨v1, e.lst (fun z => z) a1, a2.tup fun b xs => e.tup (fun z => z)⟩, G.n1, G.n2⟩
def spLFGrow (T : List Addr) : Sp := fun vs H Q _ => ∃ (net fv : V) (n root : Nat) (fs : List Nat) (ws : Wl), vs = [net, .int (root : Nat), fv] ∧ Wf n ws ∧ Rp H (netD n ws) net ∧ Rp H (finD fs) fv ∧ FnOkF n fs ∧ root < n ∧
  ∀ r lt d ln lp nvs H', H' r = some (.tup [.ref lt, .ref d, .ref ln, .ref lp]) → H' lt = some (.lst (natsV (tkn (allF n root fs ws).1))) → H' d = some (.dT (widK (allF n root fs ws).1.wid)) → H' ln = some (.lst nvs) → TupsL H' (allF n root fs ws).2 nvs → GrL H' n (allF n root fs ws).1.h (reps (allF n root fs ws).1.h n) lp → Ext T noM H H' → Q (.ref r) H'
theorem GrL.tups {H : Hp} {n : Nat} {h : Nat → Nat} {R : List Nat} {l : Addr} (g : GrL H n h R l) : ∃ vs, H l = some (.lst vs) ∧ TupsL H (R.map (cls h n)) vs := by
  obtain ⟨vs, h1, h2, h3⟩ := g
  refine ⟨vs, h1, by rw [h2, List.length_map], fun i l e => ?_⟩
  rw [List.getElem?_map] at e
  cases q : R[i]? with
  | none => rw [q] at e; cases e
  | some r =>
    rw [q] at e
    obtain rfl := Option.some.inj e
    exact h3 i r q
theorem clss_nodup {n : Nat} {h : Nat → Nat} : ((reps h n).map (cls h n)).Nodup := by
  refine List.pairwise_map.mpr ((reps_nodup h n).imp_of_mem fun {a b} ha hb hab e => ?_)
  obtain ⟨an, aa⟩ := mem_reps'.mp ha
  obtain ⟨bn, bb⟩ := mem_reps'.mp hb
  have : a ∈ cls h n b := by rw [← e]; exact mem_cls.mpr ⟨an, rfl⟩
  have := (mem_cls.mp this).2
  rw [aa, bb] at this; exact hab this
theorem clss_ok {n : Nat} {h : Nat → Nat} (n12 : n ≤ 12) : ∀ l ∈ (reps h n).map (cls h n), l.length ≤ 12 ∧ ∀ x ∈ l, x < n := fun l hl => by
  obtain ⟨r, _, rfl⟩ := List.mem_map.mp hl
  have := cls_len h n r
  exact ⟨by omega, fun x hx => (mem_cls.mp hx).1⟩
theorem born_none {ws : Wl} {n : Nat} {S : Gs} (h : first ws S = none) (k : Nat) : born ws n k S = [] := by rw [← bornAll_eq, born_stop h]
theorem born_some {ws : Wl} {n : Nat} {S : Gs} {c : Nat} (h : first ws S = some c) (k : Nat) : born ws n (k + 1) S = cls (take1 ws S c).h n (way ws c).1 :: born ws n k (take1 ws S c) := by rw [← bornAll_eq, born_go h, bornAll_eq]
section
variable {P : Program} {w : World} {K : PySem.W.Frag} {mg : Str → Option Value} {base : Heap} {T : List Addr} {aC aD : Addr}
end
end Mw

set_option Elab.async false
set_option linter.all false
set_option maxRecDepth 100000
set_option maxHeartbeats 4000000
namespace Mw
open PySem PySem.Spec PyProof.Rows L2 GE
theorem cutOff_succ {ws : Wl} {notes : Keys} : ∀ (i : Nat) (kept : List Nat), cutOff ws notes (i + 1) kept = cutOff ws notes 1 (cutOff ws notes i kept)
  | 0, kept => rfl
  | i + 1, kept => by
    cases h : fstCut ws notes kept with
    | none => rw [cutOff_stop h, cutOff_stop h, cutOff_stop h]
    | some g => rw [cutOff_go h, cutOff_go h, cutOff_succ i]
theorem cutOff_len {ws : Wl} {notes : Keys} : ∀ (j : Nat) (kept : List Nat), (cutOff ws notes j kept).length ≤ kept.length
  | 0, kept => Nat.le_refl _
  | j + 1, kept => by
    cases e : fstCut ws notes kept with
    | none => rw [cutOff_stop e]; exact Nat.le_refl _
    | some g =>
      rw [cutOff_go e]
      have h1 := cutOff_len (ws := ws) (notes := notes) j (cutS ws kept g)
      have h2 := cutS_less e
      omega
theorem ends_lead (ws : Wl) (g : List Nat) (c : Nat) : (!decide (V.bl (decide ((way ws c).1 ∈ g)) = V.bl (decide ((way ws c).2.1 ∈ g)))) = decide (ends ws g c = 1) := by
  unfold ends
  by_cases h1 : (way ws c).1 ∈ g <;> by_cases h2 : (way ws c).2.1 ∈ g <;> simp [h1, h2]
def spLKept (T : List Addr) : Sp := fun vs H Q _ => ∃ (net fv : V) (n root : Nat) (fs : List Nat) (ws : Wl), vs = [net, .int (root : Nat), fv] ∧ Wf n ws ∧ Rp H (netD n ws) net ∧ Rp H (finD fs) fv ∧ FnOkF n fs ∧ root < n ∧
  ∀ a H', H' a = some (.tup (natsV (chF n root fs ws))) → Ext T noM H H' → Q (.ref a) H'
def spAnyF (T : List Addr) : Sp := fun vs H Q _ => ∃ (p s : Addr), vs = [.ref p] ∧ PoolAt H p s ∧
  ∀ t net r fv n ws fs H', Wf n ws → r < n → FnOkF n fs → Rp H' (netD n ws) net → Rp H' (finD fs) fv → H' t = some (.tup [net, .int ((r : Nat) : Int), fv]) → PoolAt H' p s → Ext T (atP p) H H' → Q (.ref t) H'
def spLawF (K : PySem.W.Frag) (T : List Addr) : Sp := fun vs H Q _ => ∃ (a : Addr) (ns : List Int), vs = [.ref a] ∧ SqL K H a (ns.map V.int) ∧ ns.length ≤ 63 ∧ Wd T H ∧ ∀ H', Q (.bl true) H'
section
variable {P : Program} {w : World} {K : PySem.W.Frag} {mg : Str → Option Value} {base : Heap} {T : List Addr} {aC aD : Addr}
theorem ok__law_fine_task {f : Addr} {fd : FuncData} (F : Fun K "_law_fine_task" "_law_fine_task" s_law_fine_task f fd) (m_range : mg "range" = none) (m_tuple : mg "tuple" = none) {f_law_net : Addr} {fd_law_net : FuncData} (F_law_net : Fun K "_law_net" "_law_net" s_law_net f_law_net fd_law_net) (G_law_net : FnOk P w K mg base CX0 4 f_law_net fd_law_net ["pool", "most", "ways"] (spNet T)) (b_law_net : Binds K fd_law_net ["pool", "most", "ways"] []) (g_law_net : mg "_law_net" = some (.ref f_law_net)) {f_law_draw : Addr} {fd_law_draw : FuncData} (F_law_draw : Fun K "_law_draw" "_law_draw" s_law_draw f_law_draw fd_law_draw) (G_law_draw : FnOk P w K mg base CX0 4 f_law_draw fd_law_draw ["pool", "many"] (spDraw T)) (b_law_draw : Binds K fd_law_draw ["pool", "many"] []) (g_law_draw : mg "_law_draw" = some (.ref f_law_draw)) {f_law_pick : Addr} {fd_law_pick : FuncData} (F_law_pick : Fun K "_law_pick" "_law_pick" s_law_pick f_law_pick fd_law_pick) (G_law_pick : FnOk P w K mg base CX0 4 f_law_pick fd_law_pick ["pool", "rows"] (spPick T)) (b_law_pick : Binds K fd_law_pick ["pool", "rows"] []) (g_law_pick : mg "_law_pick" = some (.ref f_law_pick)) {f_law_cost : Addr} {fd_law_cost : FuncData} (F_law_cost : Fun K "_law_cost" "_law_cost" s_law_cost f_law_cost fd_law_cost) (G_law_cost : FnOk P w K mg base CX0 4 f_law_cost fd_law_cost ["pool"] (spCost T)) (b_law_cost : Binds K fd_law_cost ["pool"] []) (g_law_cost : mg "_law_cost" = some (.ref f_law_cost)) : FnOk P w K mg base CX0 5 f fd ["pool", "most", "ways"] (spFTask T) := by
  refine F.ok sc_law_fine_task (fun vs H Q E h => ?_) (fun cdv A outer s H vs Q E hr h => ?_)
  · obtain ⟨p, s, most, ways, rfl, hP, m1, m2, w1, w2, k⟩ := h
    rfl
  · obtain ⟨p, s, most, ways, rfl, hP, m1, m2, w1, w2, k⟩ := h
    refine ⟨_, (pss_cons (ps_set (i := 3) sc_law_fine_task.nd rfl (Or.inl rfl) (pe_call G_law_net hr (by rfl) g_law_net F_law_net.kp b_law_net .nil pass0 (pa_cons (pv 0) (pa_cons (pv 1) (pa_cons (pv 2) pa_nil)))))
      (pss_cons (ps_set (i := 4) sc_law_fine_task.nd rfl (Or.inl rfl) (pe_lst pa_nil))
      (pss_cons (ps_for PassesOwn.never rfl (pi_range1 (by rfl) m_range (pa_cons (pe_ix ix_tup (pv 3) pe_int (fun _ _ => rfl)) pa_nil)) (pg_name (i := 5) sc_law_fine_task.nd rfl (Or.inl rfl)) (pss_one (ps_expr (pe_bm PySem.F.plainAttrs_list PySem.F.slot_list_append PySem.F.type_list_append mt_append (pv 4) (pa_cons (pe_call G_law_pick hr (by rfl) g_law_pick F_law_pick.kp b_law_pick .nil pass0 (pa_cons (pv 0) (pa_cons (pe_lst (pa_cons pe_int (pa_cons (pe_call G_law_draw hr (by rfl) g_law_draw F_law_draw.kp b_law_draw .nil pass0 (pa_cons (pv 0) (pa_cons pe_int pa_nil))) (pa_cons (pe_call G_law_draw hr (by rfl) g_law_draw F_law_draw.kp b_law_draw .nil pass0 (pa_cons (pv 0) (pa_cons pe_int pa_nil))) (pa_cons (pe_call G_law_cost hr (by rfl) g_law_cost F_law_cost.kp b_law_cost .nil pass0 (pa_cons (pv 0) pa_nil)) pa_nil))))) pa_nil))) pa_nil)))))
      (pss_one (ps_ret (pe_tup (pa_cons (pv 3) (pa_cons (pe_call G_law_draw hr (by rfl) g_law_draw F_law_draw.kp b_law_draw .nil pass0 (pa_cons (pv 0) (pa_cons (pe_ix ix_tup (pv 3) pe_int (fun _ _ => rfl)) pa_nil))) (pa_cons (pe_callTy call_tuple_of (by rfl) m_tuple (by decide +kernel) (pa_cons (pv 4) pa_nil)) pa_nil))))))))), ?_⟩
    refine ⟨_, rfl, _, rfl, _, rfl, p, s, most, ways, rfl, hP, m1, m2, w1, w2, fun net n ws H1 W hnet hP1 e1 => ?_⟩
    have n1 := W.n1
    have n12 := W.n12
    refine ⟨by show 0 ≤ sizeLine; decide, fun l hl => ?_⟩
    obtain ⟨hlp, hls⟩ := hP1.ne hl
    have e2 : Ext T (atP p) H1 (upd H1 l (.lst [])) := Ext.new hl
    obtain ⟨na, nb, us, rfl, ha, hb, hus⟩ := net_at (Rp.p hnet hP1 e2)
    refine ⟨_, rfl, na, _, _, _, rfl, rfl, SqT.of ha, at_of (j := 0) rfl rfl, n, rfl, by omega, by omega, for_range (lo := 0) (n := ((n : Int)).toNat) (fun i σ' H' => ∃ fs y5, σ' = [some (.ref p), some (.int most), some (.int ways), some (.ref na), some (.ref l), y5] ∧ PoolAt H' p s ∧ Ext T (atP p) H1 H' ∧ H' l = some (.lst (natsV fs)) ∧ fs.length = i ∧ ∀ f ∈ fs, f ≤ 10000)
      ⟨[], none, rfl, hP1.upd hlp hls, e2, upd_same, rfl, fun f h => nomatch h⟩ ?_ ?_⟩
    · rintro i σ' H3 hi ⟨fs, y5, rfl, hP3, e3, hl3, hfl, hfb⟩
      have hi' : i < n := by omega
      refine ⟨_, rfl, .inl ⟨rfl, _, SqL.of hl3⟩, ?_⟩
      refine ⟨_, rfl, _, rfl, p, s, 6, rfl, hP3, by decide, by decide, fun d1 H4 d10 d11 hP4 e4 => ?_⟩
      refine ⟨_, rfl, p, s, 20, rfl, hP4, by decide, by decide, fun d2 H5 d20 d21 hP5 e5 => ?_⟩
      refine ⟨_, rfl, p, s, rfl, hP5, fun d3 H6 d30 d31 hP6 e6 => ?_⟩
      refine ⟨by show 4 ≤ sizeLine; decide, fun q hq => ?_⟩
      obtain ⟨hqp, hqs⟩ := hP6.ne hq
      have x7 : Ext T (atP p) H6 (upd H6 q (.lst [.int 0, .int d1, .int d2, .int d3])) := Ext.new hq
      refine ⟨p, s, q, _, rfl, hP6.upd hqp hqs, upd_same, hqp, by show 1 ≤ 4; decide, by show 4 ≤ 1000; decide, fun v H8 hv hP8 e8 => ?_⟩
      obtain ⟨f, rfl, hf⟩ : ∃ f : Nat, v = V.int (f : Nat) ∧ f ≤ 10000 := by
        simp only [List.mem_cons, List.not_mem_nil, or_false] at hv
        rcases hv with h | h | h | h
        · exact ⟨0, h, by omega⟩
        · exact ⟨d1.toNat, by rw [h]; congr 1; omega, by omega⟩
        · exact ⟨d2.toNat, by rw [h]; congr 1; omega, by omega⟩
        · exact ⟨d3.toNat, by rw [h]; congr 1; omega, by omega⟩
      have e38 := (((e4.trans e5).trans e6).trans x7).trans e8
      have hl8 := e38.lst hlp hl3
      refine ⟨_, _, _, rfl, rfl, hl8, ?_, fs ++ [f], _, rfl, hP8.upd hlp hls, (e3.trans e38).mut (.inl hl) hl8 ltbl, ?_, ?_, ?_⟩
      · unfold natsV; rw [List.length_map]; exact small1000 (by omega)
      · rw [upd_same]; unfold natsV; rw [List.map_append]; rfl
      · rw [List.length_append, List.length_singleton, hfl]
      · intro x hx
        rcases List.mem_append.mp hx with h | h
        · exact hfb x h
        · rw [List.mem_singleton.mp h]; exact hf
    · rintro σ' H3 ⟨fs, y5, rfl, hP3, e3, hl3, hfl, hfb⟩
      have hfl' : fs.length = n := by omega
      have ha3 := (Rp.p hnet hP1 e3)
      obtain ⟨na', nb', us', en, ha', _, _⟩ := net_at ha3
      cases en
      refine ⟨_, rfl, _, rfl, _, rfl, na, _, _, _, rfl, rfl, SqT.of ha', at_of (j := 0) rfl rfl, p, s, n, rfl, hP3, by omega, by omega, fun r H4 r0 r1 hP4 e4 => ?_⟩
      have hl4 := e4.lst hlp hl3
      refine ⟨_, rfl, l, _, rfl, .inl ⟨SqL.of hl4, fun ft hft => ?_⟩⟩
      have x5 : Ext T noM H4 (upd H4 ft (.tup (natsV fs))) := Ext.new hft
      have hft5 : (upd H4 ft (.tup (natsV fs))) ft = some (.tup (natsV fs)) := upd_same
      have hP5 := hP4.keep (T := T) x5
      generalize (upd H4 ft (.tup (natsV fs))) = H5 at x5 hft5 hP5 ⊢
      refine ⟨by show 3 ≤ sizeLine; decide, fun t ht => ?_⟩
      have x6 : Ext T noM H5 (upd H5 t (.tup [.ref na, .int r, .ref ft])) := Ext.new ht
      have er : r = ((r.toNat : Nat) : Int) := by omega
      refine k t (.ref na) r.toNat (.ref ft) n ws fs _ W (by omega) ⟨hfl', hfb⟩ ?_ (rp_ch (cs := fs) (x6.tup (fun z => z) hft5)) ?_ (hP5.keep x6) (((e1.trans (e3.trans e4)).trans x5.weak).trans x6.weak)
      · exact Rp.x x6 (Rp.x x5 (Rp.p ha3 hP3 e4))
      · rw [← er]; exact upd_same
theorem ok__law_any_fine_task {f : Addr} {fd : FuncData} (F : Fun K "_law_any_fine_task" "_law_any_fine_task" s_law_any_fine_task f fd) {f_law_fine_task : Addr} {fd_law_fine_task : FuncData} (F_law_fine_task : Fun K "_law_fine_task" "_law_fine_task" s_law_fine_task f_law_fine_task fd_law_fine_task) (G_law_fine_task : FnOk P w K mg base CX0 5 f_law_fine_task fd_law_fine_task ["pool", "most", "ways"] (spFTask T)) (b_law_fine_task : Binds K fd_law_fine_task ["pool", "most", "ways"] []) (g_law_fine_task : mg "_law_fine_task" = some (.ref f_law_fine_task)) {f_law_pick : Addr} {fd_law_pick : FuncData} (F_law_pick : Fun K "_law_pick" "_law_pick" s_law_pick f_law_pick fd_law_pick) (G_law_pick : FnOk P w K mg base CX0 5 f_law_pick fd_law_pick ["pool", "rows"] (spPick T)) (b_law_pick : Binds K fd_law_pick ["pool", "rows"] []) (g_law_pick : mg "_law_pick" = some (.ref f_law_pick)) : FnOk P w K mg base CX0 6 f fd ["pool"] (spAnyF T) := by
  refine F.ok sc_law_any_fine_task (fun vs H Q E h => ?_) (fun cdv A outer s H vs Q E hr h => ?_)
  · obtain ⟨p, s, rfl, hP, k⟩ := h
    rfl
  · obtain ⟨p, s, rfl, hP, k⟩ := h
    refine ⟨_, (pss_one (ps_ret (pe_call G_law_fine_task hr (by rfl) g_law_fine_task F_law_fine_task.kp b_law_fine_task .nil pass0 (pa_cons (pv 0) (pa_cons (pe_call G_law_pick hr (by rfl) g_law_pick F_law_pick.kp b_law_pick .nil pass0 (pa_cons (pv 0) (pa_cons (pe_lst (pa_cons pe_int (pa_cons pe_int (pa_cons pe_int pa_nil)))) pa_nil))) (pa_cons (pe_call G_law_pick hr (by rfl) g_law_pick F_law_pick.kp b_law_pick .nil pass0 (pa_cons (pv 0) (pa_cons (pe_lst (pa_cons pe_int (pa_cons pe_int (pa_cons pe_int pa_nil)))) pa_nil))) pa_nil)))))), ?_⟩
    refine ⟨_, rfl, _, rfl, by show 3 ≤ sizeLine; decide, fun l1 hl1 => ?_⟩
    have x1 : Ext T noM H (upd H l1 (.lst [.int 6, .int 10, .int 12])) := Ext.new hl1
    refine ⟨p, s, l1, _, rfl, hP.keep (T := T) x1, upd_same, (hP.ne hl1).1, by decide, by decide, fun v1 H2 hv1 hP2 e2 => ?_⟩
    obtain ⟨m1, rfl, hm1⟩ : ∃ m : Int, v1 = .int m ∧ (m = 6 ∨ m = 10 ∨ m = 12) := by
      simp only [List.mem_cons, List.not_mem_nil, or_false] at hv1
      rcases hv1 with h | h | h
      · exact ⟨6, h, .inl rfl⟩
      · exact ⟨10, h, .inr (.inl rfl)⟩
      · exact ⟨12, h, .inr (.inr rfl)⟩
    refine ⟨_, rfl, by show 3 ≤ sizeLine; decide, fun l2 hl2 => ?_⟩
    have x3 : Ext T noM H2 (upd H2 l2 (.lst [.int 9, .int 18, .int 24])) := Ext.new hl2
    refine ⟨p, s, l2, _, rfl, hP2.keep (T := T) x3, upd_same, (hP2.ne hl2).1, by decide, by decide, fun v2 H3 hv2 hP3 e3 => ?_⟩
    obtain ⟨m2, rfl, hm2⟩ : ∃ m : Int, v2 = .int m ∧ (m = 9 ∨ m = 18 ∨ m = 24) := by
      simp only [List.mem_cons, List.not_mem_nil, or_false] at hv2
      rcases hv2 with h | h | h
      · exact ⟨9, h, .inl rfl⟩
      · exact ⟨18, h, .inr (.inl rfl)⟩
      · exact ⟨24, h, .inr (.inr rfl)⟩
    exact ⟨p, s, m1, m2, rfl, hP3, by omega, by omega, by omega, by omega, fun t net r fv n ws fs H4 W hr F hn hf ht hP4 e4 => k t net r fv n ws fs H4 W hr F hn hf ht hP4 (((x1.weak.trans e2).trans x3.weak).trans (e3.trans e4))⟩
end
end Mw

set_option Elab.async false
set_option linter.all false
set_option maxRecDepth 100000
set_option maxHeartbeats 2000000
/-! x is True, x is not True, of truth values -/
namespace GE
open PySem PySem.Spec PyProof.Rows L2
section
variable {X : Cx}
def rBlIs (neg : Bool) : R2 := fun x y H Q => ∃ a b : Bool, x = .bl a ∧ y = .bl b ∧ Q (.bl (if neg then !decide (a = b) else decide (a = b))) H
theorem bl_beq (a b : Bool) : (Value.bool a == Value.bool b) = decide (a = b) := by
  by_cases e : a = b
  · subst e
    exact (beq_self_eq_true (Value.bool a)).trans (decide_eq_true (p := a = a) rfl).symm
  · exact (beq_eq_false_iff_ne.mpr fun z => e (Value.bool.inj z)).trans (decide_eq_false e).symm
theorem op_isBl : OpR X (compareOp .Is) (rBlIs false) := by
  intro pins s σ H x y v u Q I rx ry h
  obtain ⟨a, b, rfl, rfl, q⟩ := h
  cases (show v = Value.bool a from rx)
  cases (show u = Value.bool b from ry)
  exact wpAny_is_plain rfl (fin_bl I q (bl_beq a b).symm)
theorem op_notBl : OpR X (compareOp .IsNot) (rBlIs true) := by
  intro pins s σ H x y v u Q I rx ry h
  obtain ⟨a, b, rfl, rfl, q⟩ := h
  cases (show v = Value.bool a from rx)
  cases (show u = Value.bool b from ry)
  exact wpAny_isNot_plain rfl (fin_bl I q (congrArg not (bl_beq a b).symm))
end
end GE

set_option Elab.async false
set_option linter.all false
set_option maxRecDepth 100000
set_option maxHeartbeats 2000000
/-! t[::-1] of a tuple -/
namespace GE
open PySem PySem.Spec PyProof.Rows L2 HT
section
variable {prog : Program} {w : World} {A : Around} {E : Value → Shared → Prop} {s : Shared}
theorem adjust_rev (n : Nat) : Builtin.Slice.sliceAdjust none none (-1) (n : Int) = ((n : Int) - 1, -1) := by
  unfold Builtin.Slice.sliceAdjust
  have h1 : ((-1 : Int) < 0) := by omega
  simp only [h1, if_true]
theorem places_rev (n : Nat) : Builtin.Slice.slicePlaces ((n : Int) - 1) (-1) (-1) = n := by
  unfold Builtin.Slice.slicePlaces
  have h1 : ¬ ((-1 : Int) > 0) := by omega
  simp only [h1, if_false]
  split
  · have e : ((n : Int) - 1 - -1 - 1) / - -1 + 1 = n := by
      rw [show (- -1 : Int) = 1 from rfl, Int.ediv_one]; omega
    first
      | omega
      | (rw [e]; omega)
      | simp
  · omega
theorem pick_rev (xs : Array Value) : ((List.range xs.size).filterMap fun (m : Nat) => xs[(((xs.size : Int) - 1) + (m : Int) * (-1)).toNat]?).toArray = xs.toList.reverse.toArray := by
  congr 1
  apply List.ext_getElem?
  intro i
  have key : ∀ k, k ≤ xs.size → (List.range k).filterMap (fun (m : Nat) => xs[(((xs.size : Int) - 1) + (m : Int) * (-1)).toNat]?) = xs.toList.reverse.take k := by
    intro k
    induction k with
    | zero => intro _; rfl
    | succ k ih =>
      intro hk
      rw [List.range_succ, List.filterMap_append, ih (by omega), List.take_add_one]
      congr 1
      have e1 : (((xs.size : Int) - 1) + (k : Int) * (-1)).toNat = xs.size - 1 - k := by omega
      have e2 : xs.toList.reverse[k]? = xs[xs.size - 1 - k]? := by
        rw [List.getElem?_reverse (by rw [Array.length_toList]; omega), Array.length_toList, Array.getElem?_toList]
      rw [e2]
      have hx : xs[xs.size - 1 - k]? = some (xs[xs.size - 1 - k]'(by omega)) := Array.getElem?_eq_getElem _
      simp only [List.filterMap_cons, List.filterMap_nil, e1, hx]
      rfl
  rw [key xs.size (Nat.le_refl _), List.take_of_length_le (by rw [List.length_reverse, Array.length_toList]; exact Nat.le_refl _)]
theorem sliceApplied_rev {sl : Addr} {vs : Value} {n : Nat} {Q : Int × Int × Nat → Shared → Prop} (hs : s.heap.IsSliceOf sl .none .none vs) (ps : IsPart vs (some (-1)))
    (h : Q ((n : Int) - 1, -1, n) s) : wpAny (model prog w) A (Builtin.Slice.sliceApplied (.ref sl) (pure (n : Int))) Q E s := by
  obtain ⟨os, hos, hcs, hds⟩ := id hs
  unfold Builtin.Slice.sliceApplied Builtin.Slice.sliceFields
  refine wpAny_bind (wpAny_bind (wpAny_field hos hds (x := .none) rfl (wpAny_bind (wpAny_field hos hds (x := .none) rfl (wpAny_bind (wpAny_field hos hds (x := vs) rfl (wpAny_pure ?_)))))))
  refine wpAny_bind (slicePart_ ps ?_)
  show wpAny _ _ (if ((-1 : Int) == 0) = true then _ else _) _ _ s
  rw [if_neg (by decide)]
  refine wpAny_bind (slicePart_none (wpAny_bind (slicePart_none (wpAny_bind (wpAny_pure ?_)))))
  show wpAny _ _ (match Builtin.Slice.sliceAdjust none none (-1) (n : Int) with | (lo, hi) => pure (lo, (-1 : Int), Builtin.Slice.slicePlaces lo hi (-1))) _ _ s
  rw [adjust_rev n]
  show wpAny _ _ (pure ((n : Int) - 1, (-1 : Int), Builtin.Slice.slicePlaces ((n : Int) - 1) (-1) (-1))) _ _ s
  rw [places_rev]
  exact wpAny_pure h
theorem getItem_tuple_rev {t sl : Addr} {items : Array Value} {vs : Value} {Q : Value → Shared → Prop} (ht : IsTup s.heap t items) (hs : s.heap.IsSliceOf sl .none .none vs) (ps : IsPart vs (some (-1)))
    (h : Q (.ref s.heap.objs.size) { s with heap := s.heap.push { cls := .type "tuple", data := .seq items.toList.reverse.toArray } })
    (hsz : items.size ≤ sizeLine) : wpAny (model prog w) A (getItem (.ref t) (.ref sl)) Q E s := by
  have hfit : sizeOk (.seq items.toList.reverse.toArray) := by
    show items.toList.reverse.toArray.size ≤ sizeLine
    rw [List.size_toArray, List.length_reverse, Array.length_toList]
    exact hsz
  obtain ⟨os, hos, hcs, hds⟩ := id hs
  have hTs : s.TypeIs (.ref sl) "slice" := ⟨os, hos, hcs⟩
  unfold getItem
  try with_reducible refine wpAny_holding ?_
  first | refine wpAny_bind (wpAny_pure ?_) | skip
  refine wpAny_bind (wpAny_sequenceKey ht.typeIs (by decide) ?_)
  refine wpAny_bind (wpAny_callSpecial?_slot (name := Str.ofString "__getitem__") ht.typeIs PyProof.Rows.slot_tuple_getitem
    (wpAny_call_entry PyProof.Rows.slot_tuple_getitem ht.typeIs entry_tuple_getitem ?_ (args_tuple_getitem _ _)))
  show wpAny _ _ (Builtin.Tuple.tupleItemsOf (.ref t) >>= _) _ _ s
  refine wpAny_bind (tupleItemsOf_ ht ?_)
  refine wpAny_bind (wpAny_typeOf hTs ?_)
  rw [if_pos (by decide)]
  refine wpAny_bind (sliceApplied_rev hs ps ?_)
  have hno : ¬ ((((items.size : Int) - 1) == 0 && (-1 : Int) == 1 && items.size == items.size) = true) := by
    intro q
    rw [Bool.and_eq_true, Bool.and_eq_true] at q
    exact absurd (eq_of_beq q.1.2) (by decide)
  show wpAny _ _ (if (((items.size : Int) - 1) == 0 && (-1 : Int) == 1 && items.size == items.size) = true then _ else _) _ _ s
  rw [if_neg hno, pick_rev]
  first
    | exact wpAny_bind (m := Builtin.Tuple.tupleExact _) (wpAny_newObj_type (wpAny_pure ⟨_, rfl, wpAny_pure h⟩) hfit)
    | exact wpAny_bind (m := Builtin.Tuple.tupleExact _) (wpAny_newObj_type (wpAny_bind (wpAny_pure (wpAny_pure ⟨_, rfl, wpAny_pure h⟩))) hfit)
    | exact wpAny_bind (wpAny_bind (m := Builtin.Tuple.tupleExact _) (wpAny_newObj_type (wpAny_pure (wpAny_pure ⟨_, rfl, wpAny_pure h⟩)) hfit))
    | exact wpAny_bind (wpAny_bind (m := Builtin.Tuple.tupleExact _) (wpAny_newObj_type (wpAny_pure ⟨_, rfl, wpAny_pure h⟩) hfit))
end
section
variable {X : Cx}
def tRevT (K : PySem.W.Frag) (te : TE) : TE := fun σ H Q => te σ H fun x H1 => ∃ a xs, x = .ref a ∧ SqT K H1 a xs ∧ ∀ p, H1 p = none → Q (.ref p) (upd H1 p (.tup xs.reverse))
theorem pe_revT {e : Expr} {te : TE} {k : Nat} {p1 p2 p3 pos : Pos} (he : PE X e te) : PE X (.Subscript e (.Slice none none (some (.UnaryOp .USub (.Constant (.int 1) k p1) p2)) p3) pos) (tRevT X.K te) := by
  refine ⟨fun pins s σ H Q I h => ?_⟩
  refine Subscript_ (thn (he.run pins s σ H _ I h) fun v s1 ⟨x, H1, I1, r1, q1⟩ => ?_)
  obtain ⟨a, xs, rfl, hx, q⟩ := q1
  cases r1
  have third : PO X (some (.UnaryOp .USub (.Constant (.int 1) k p1) p2)) (tPart (tUn (rU fun i => .int (-i)) (tC (.int 1)))) := po_some (pe_un un_neg pe_int)
  refine wpAny_Slice (thn (po_none.run pins s1 σ H1 (fun o H2 => o = none ∧ H2 = H1) I1 ⟨rfl, rfl⟩) fun vl s2 ⟨l, H2, I2, pl, el, e2⟩ => ?_)
  subst el e2
  refine thn (po_none.run pins s2 σ H2 (fun o H3 => o = none ∧ H3 = H2) I2 ⟨rfl, rfl⟩) fun vu s3 ⟨u, H3, I3, pu, eu, e3⟩ => ?_
  subst eu e3
  refine thn (third.run pins s3 σ H3 (fun o H4 => o = some (-1) ∧ H4 = H3) I3 ⟨1, rfl, -1, rfl, rfl, rfl⟩) fun vs s4 ⟨o, H4, I4, ps, eo, e4⟩ => ?_
  subst eo e4
  cases pl
  cases pu
  have I5 : Inv X pins σ H4 { s4 with heap := s4.heap.push { cls := .type "slice", data := .fields #[.none, .none, vs] } } := I4.kept (t' := s4.toks) fun b ob q => Heap.get?_push_of_some _ q
  obtain ⟨its, r, ht, hz⟩ := I5.tuple hx
  have hlen := r.length
  show wpAny (model X.prog X.w) X.A (subscriptTail e (.Slice none none (some (.UnaryOp .USub (.Constant (.int 1) k p1) p2)) p3) (.ref a) (.ref s4.heap.objs.size)) (EP X pins σ Q) X.xe { s4 with heap := s4.heap.push { cls := .type "slice", data := .fields #[.none, .none, vs] } }
  refine tail_any (ops := [.ref a, .ref s4.heap.objs.size]) ht.typeIs (PyProof.Rows.slot_tuple_getitem.lookup) ?_ (by with_unfolding_all rfl)
  refine getItem_tuple_rev ht (Heap.IsSliceOf.new ..) ps ?_ (by rw [List.size_toArray, ← hlen]; exact hz)
  refine ⟨.ref _, _, I5.laid (t' := s4.toks) (o := .tup xs.reverse) (fun b ob q => Heap.get?_push_of_some _ q) (Nat.le_refl _) ?_, rfl, q _ (I5.hok.fresh (Nat.le_refl _))⟩
  exact ⟨by rw [List.length_reverse]; exact hz, _, r.reverse, IsTup.new _ _⟩
end
end GE
namespace GE
open PySem PySem.Spec PyProof.Rows L2
/-! parts and sums of tuples, whichever object they are -/
theorem cutV_whole {xs : List V} {lo hi : Option Int} (h : HT.sIx xs.length 0 lo = 0 ∧ HT.sIx xs.length xs.length hi = xs.length) : cutV xs lo hi = xs := by
  unfold cutV
  rw [h.1, h.2, List.drop_zero, Nat.sub_zero, List.take_length]
def rSlX (K : PySem.W.Frag) : V → Option Int → Option Int → Hp → VK → Prop := fun x lo hi H Q => ∃ a xs, x = .ref a ∧ SqT K H a xs ∧ ∀ p H', SqT K H' p (cutV xs lo hi) → (∀ T, Ext T noM H H') → Q (.ref p) H'
def rCatX (K : PySem.W.Frag) : R2 := fun x y H Q => ∃ a b xs ys, x = .ref a ∧ y = .ref b ∧ SqT K H a xs ∧ SqT K H b ys ∧ xs.length + ys.length ≤ sizeLine ∧ ∀ p H', SqT K H' p (xs ++ ys) → (∀ T, Ext T noM H H') → Q (.ref p) H'
section
variable {X : Cx}
theorem sl_tupX : SlR X (rSlX X.K) := by
  intro pins s σ H x v vl vu lo hi sl Q I rx hs pl pu h
  obtain ⟨a, xs, rfl, hx, q⟩ := h
  refine sl_tupA pins s σ H _ v vl vu lo hi sl Q I rx hs pl pu ⟨a, xs, rfl, hx, fun hw => ?_, fun hw p hp => ?_⟩
  · exact q a H (by rw [cutV_whole hw]; exact hx) fun T => Ext.refl _ _ _
  · exact q p _ (SqT.of upd_same) fun T => Ext.new hp
theorem op_catX : OpR X (binaryOp .Add) (rCatX X.K) := by
  intro pins s σ H x y v u Q I rx ry h
  obtain ⟨a, b, xs, ys, rfl, rfl, ha, hb, hz, q⟩ := h
  refine op_catA pins s σ H _ _ v u Q I rx ry ⟨a, b, xs, ys, rfl, rfl, ha, hb, hz, fun e => ?_, fun _ e => ?_, fun _ _ p hp => ?_⟩
  · exact q b H (by rw [e]; exact hb) fun T => Ext.refl _ _ _
  · exact q a H (by rw [e, List.append_nil]; exact ha) fun T => Ext.refl _ _ _
  · exact q p _ (SqT.of upd_same) fun T => Ext.new hp
end
end GE

set_option linter.all false
set_option maxRecDepth 100000
set_option maxHeartbeats 4000000
namespace GE
open PySem PySem.Spec PyProof.Rows L2
/-! parts and sums of tuples that stand, whichever object they are -/
def rSlR : V → Option Int → Option Int → Hp → VK → Prop := fun x lo hi H Q => ∃ a xs, x = .ref a ∧ H a = some (.tup xs) ∧ ∀ p H', H' p = some (.tup (cutV xs lo hi)) → (∀ T, Ext T noM H H') → Q (.ref p) H'
def rCatR : R2 := fun x y H Q => ∃ a b xs ys, x = .ref a ∧ y = .ref b ∧ H a = some (.tup xs) ∧ H b = some (.tup ys) ∧ xs.length + ys.length ≤ sizeLine ∧ ∀ p H', H' p = some (.tup (xs ++ ys)) → (∀ T, Ext T noM H H') → Q (.ref p) H'
section
variable {X : Cx}
theorem sl_tupR : SlR X rSlR := by
  intro pins s σ H x v vl vu lo hi sl Q I rx hs pl pu h
  obtain ⟨a, xs, rfl, hx, q⟩ := h
  refine sl_tupA pins s σ H _ v vl vu lo hi sl Q I rx hs pl pu ⟨a, xs, rfl, SqT.of hx, fun hw => ?_, fun hw p hp => ?_⟩
  · exact q a H (by rw [cutV_whole hw]; exact hx) fun T => Ext.refl _ _ _
  · exact q p _ upd_same fun T => Ext.new hp
theorem op_catR : OpR X (binaryOp .Add) rCatR := by
  intro pins s σ H x y v u Q I rx ry h
  obtain ⟨a, b, xs, ys, rfl, rfl, ha, hb, hz, q⟩ := h
  refine op_catA pins s σ H _ _ v u Q I rx ry ⟨a, b, xs, ys, rfl, rfl, SqT.of ha, SqT.of hb, hz, fun e => ?_, fun _ e => ?_, fun _ _ p hp => ?_⟩
  · exact q b H (by rw [e]; exact hb) fun T => Ext.refl _ _ _
  · exact q a H (by rw [e, List.append_nil]; exact ha) fun T => Ext.refl _ _ _
  · exact q p _ upd_same fun T => Ext.new hp
end
end GE

set_option Elab.async false
set_option linter.all false
set_option maxRecDepth 100000
set_option maxHeartbeats 4000000
namespace Mw
open PySem PySem.Spec PyProof.Rows L2 GE
def capW (ws : Wl) : Wl := ws.map fun w => (w.1, w.2.1, min w.2.2 3000)
theorem way_cap (ws : Wl) (c : Nat) : way (capW ws) c = ((way ws c).1, (way ws c).2.1, min (way ws c).2.2 3000) := by
  unfold way capW
  rw [List.getD_eq_getElem?_getD, List.getD_eq_getElem?_getD, List.getElem?_map]
  cases ws[c]? with
  | none => rfl
  | some w => rfl
theorem wedges_cap {ws : Wl} : wedges (capW ws) = wedges ws := by
  unfold wedges
  rw [show (capW ws).length = ws.length from List.length_map _]
  exact List.map_congr_left fun c _ => by rw [way_cap]
theorem Wf.cap {n : Nat} {ws : Wl} (W : Wf n ws) : Wf n (capW ws) := ⟨W.n1, W.n12, by rw [show (capW ws).length = ws.length from List.length_map _]; exact W.ln, fun w hw => by
  obtain ⟨v, hv, rfl⟩ := List.mem_map.mp hw
  obtain ⟨o1, o2, o3, o4⟩ := W.ok v hv
  exact ⟨o1, o2, show 1 ≤ min v.2.2 3000 by omega, show min v.2.2 3000 ≤ 10000 by omega⟩⟩
theorem cap_le {ws : Wl} {m : Nat} (hm : m ≤ 3) : ∀ w ∈ capW ws, w.2.2 * m ≤ 10000 := fun w hw => by
  obtain ⟨v, hv, rfl⟩ := List.mem_map.mp hw
  have : min v.2.2 3000 * m ≤ 3000 * 3 := Nat.mul_le_mul (by omega) hm
  show min v.2.2 3000 * m ≤ 10000
  omega
theorem row2 {K : PySem.W.Frag} {H : Hp} {kw : List Nat × Int} {v : V} (h : RpK K H (rowP kw) v) : ∃ (a : Addr) (x fv : V), v = .ref a ∧ SqT K H a [x, fv] ∧ RpK K H (chD kw.1) x ∧ FrV K H kw.2 fv := by
  obtain ⟨a, vs, rfl, h1, h2⟩ := h.t
  obtain ⟨v1, r1, rfl, h3, h4⟩ := h2.cons
  obtain ⟨v2, r2, rfl, h5, h6⟩ := h4.cons
  rw [h6.nil] at h1
  obtain ⟨c, ws, rfl, h9, h10⟩ := h5.t
  obtain ⟨x1, s1, rfl, k1, k2⟩ := h10.cons
  obtain ⟨x2, s2, rfl, k3, k4⟩ := k2.cons
  rw [k1.i, k3.i, k4.nil] at h9
  exact ⟨a, v1, _, rfl, h1, h3, c, rfl, h9⟩
/-- a time and a whole factor -/
theorem FrV.times {K : PySem.W.Frag} {H : Hp} {u : Int} {M : Nat} {z : V} (h : FrQ K H (u * ((M : Int) * 1)) (4096 * 1) z) : FrV K H (u * M) z := (h.to (D' := 4096) (u' := u * M) (by decide) (by decide) (by rw [Int.mul_one, Int.mul_one])).v
theorem sm_rows {rs : Wid} (hl : rs.length ≤ 1000) (hk : ∀ kw ∈ rs, kw.1.length ≤ 1000) : Sm 4 (papD rs) := ⟨by rw [List.length_map]; exact hl, fun d hd => by
  obtain ⟨kw, hkw, rfl⟩ := List.mem_map.mp hd
  refine ⟨by show 2 ≤ 1000; decide, fun d hd => ?_⟩
  rcases List.mem_cons.mp hd with z | z
  · rw [z]
    exact ⟨by rw [List.length_map]; exact hk kw hkw, fun d hd => by
      obtain ⟨c, _, rfl⟩ := List.mem_map.mp hd
      exact True.intro⟩
  · rw [List.mem_singleton.mp z]; exact sm_fr _ 0⟩
theorem sm_chs {cs : List Nat} (h : cs.length ≤ 1000) : Sm 4 (chD cs) := ⟨by rw [List.length_map]; exact h, fun d hd => by
  obtain ⟨c, _, rfl⟩ := List.mem_map.mp hd
  exact True.intro⟩
theorem cut_to (xs : List V) (j : Nat) : cutV xs none (some (j : Int)) = xs.take j := by
  unfold cutV
  rw [HT.sIx_nat]
  show List.take (min j xs.length - 0) (xs.drop 0) = _
  rw [List.drop_zero, Nat.sub_zero]
  by_cases h : j ≤ xs.length
  · rw [Nat.min_eq_left h]
  · rw [Nat.min_eq_right (by omega), List.take_length, List.take_of_length_le (by omega : xs.length ≤ j)]
theorem cut_from (xs : List V) (j : Nat) : cutV xs (some (j : Int)) none = xs.drop j := by
  unfold cutV
  rw [HT.sIx_nat]
  show List.take (xs.length - min j xs.length) (xs.drop (min j xs.length)) = _
  by_cases h : j ≤ xs.length
  · rw [Nat.min_eq_left h, List.take_of_length_le (by rw [List.length_drop]; exact Nat.le_refl _)]
  · rw [Nat.min_eq_right (by omega), List.drop_of_length_le (by omega : xs.length ≤ j)]; simp
theorem rpl_drop {H : Hp} : ∀ {ds : List D} {vs : List V} (j : Nat), RpL H ds vs → RpL H (ds.drop j) (vs.drop j)
  | ds, vs, 0, h => h
  | [], vs, j + 1, h => by rw [h.nil]; exact rpl_nil
  | d :: ds, vs, j + 1, h => by
    obtain ⟨v, r, rfl, h1, h2⟩ := h.cons
    exact rpl_drop j h2
theorem rpl_take {H : Hp} : ∀ {ds : List D} {vs : List V} (j : Nat), RpL H ds vs → RpL H (ds.take j) (vs.take j)
  | ds, vs, 0, h => rpl_nil
  | [], vs, j + 1, h => by rw [h.nil]; exact rpl_nil
  | d :: ds, vs, j + 1, h => by
    obtain ⟨v, r, rfl, h1, h2⟩ := h.cons
    exact rpl_cons h1 (rpl_take j h2)
theorem rpl_app {H : Hp} : ∀ {ds es : List D} {vs us : List V}, RpL H ds vs → RpL H es us → RpL H (ds ++ es) (vs ++ us)
  | [], es, vs, us, h, g => by rw [h.nil]; exact g
  | d :: ds, es, vs, us, h, g => by
    obtain ⟨v, r, rfl, h1, h2⟩ := h.cons
    exact rpl_cons h1 (rpl_app h2 g)
theorem rpl_rev {H : Hp} : ∀ {ds : List D} {vs : List V}, RpL H ds vs → RpL H ds.reverse vs.reverse
  | [], vs, h => by rw [h.nil]; exact rpl_nil
  | d :: ds, vs, h => by
    obtain ⟨v, r, rfl, h1, h2⟩ := h.cons
    rw [List.reverse_cons, List.reverse_cons]
    exact rpl_app (rpl_rev h2) (rpl_cons h1 rpl_nil)

theorem natsV_li (l : List Nat) : (l.map fun x : Nat => (x : Int)).map V.int = natsV l := by unfold natsV; rw [List.map_map]; rfl
theorem natsV_map (f : Nat → Nat) (l : List Nat) : natsV (l.map f) = l.map fun x => V.int ((f x : Nat) : Int) := by unfold natsV; rw [List.map_map]; rfl
def capF (fs : List Nat) : List Nat := fs.map (min · 3000)
theorem FnOkF.cap {n : Nat} {fs : List Nat} (F : FnOkF n fs) : FnOkF n (capF fs) := ⟨by unfold capF; rw [List.length_map]; exact F.ln, fun f hf => by
  obtain ⟨g, _, rfl⟩ := List.mem_map.mp hf
  show min g 3000 ≤ 10000
  omega⟩
theorem FnOkF.scl {n m : Nat} {fs : List Nat} (F : FnOkF n fs) (hm : m ≤ 3) (h3 : ∀ f ∈ fs, f ≤ 3000) : FnOkF n (sclF m fs) := ⟨by unfold sclF; rw [List.length_map]; exact F.ln, fun f hf => by
  obtain ⟨g, hg, rfl⟩ := List.mem_map.mp hf
  have := Nat.mul_le_mul (h3 g hg) hm
  show g * m ≤ 10000
  omega⟩
theorem FnOkF.other {n root x : Nat} {fs : List Nat} (F : FnOkF n fs) (rn : root < n) (hx : x ≤ 10000) : FnOkF n (fs.take root ++ [x] ++ fs.drop (root + 1)) ∧ ∀ y, y ≠ root → (fs.take root ++ [x] ++ fs.drop (root + 1)).getD y 0 = fs.getD y 0 := by
  have hl := F.ln
  refine ⟨⟨by simp; omega, fun f hf => ?_⟩, fun y hy => ?_⟩
  · rcases List.mem_append.mp hf with z | z
    · rcases List.mem_append.mp z with z | z
      · exact F.bd f (List.mem_of_mem_take z)
      · rw [List.mem_singleton.mp z]; exact hx
    · exact F.bd f (List.mem_of_mem_drop z)
  · rw [List.getD_eq_getElem?_getD, List.getD_eq_getElem?_getD]
    have htl : (fs.take root).length = root := by rw [List.length_take]; omega
    rcases Nat.lt_or_ge y root with q | q
    · rw [List.append_assoc, List.getElem?_append_left (by omega), List.getElem?_take_of_lt q]
    · rw [List.getElem?_append_right (by rw [List.length_append, htl, List.length_singleton]; omega), List.length_append, htl, List.length_singleton, List.getElem?_drop]
      congr 2
      omega
theorem sm_reach {a b : List Nat} (ha : a.length ≤ 1000) (hb : b.length ≤ 1000) : Sm 4 (.t [chD a, chD b]) := ⟨by show 2 ≤ 1000; decide, fun d hd => by
  have key : ∀ c : List Nat, c.length ≤ 1000 → Sm 3 (chD c) := fun c hc => ⟨by rw [List.length_map]; exact hc, fun d hd => by
    obtain ⟨x, _, rfl⟩ := List.mem_map.mp hd
    exact True.intro⟩
  rcases List.mem_cons.mp hd with z | z
  · rw [z]; exact key a ha
  · rw [List.mem_singleton.mp z]; exact key b hb⟩
theorem cut_from1 (xs : List V) (j : Nat) (i : Int) (h : i = ((j : Nat) : Int)) : cutV xs (some i) none = xs.drop j := by rw [h]; exact cut_from xs j
section
variable {P : Program} {w : World} {K : PySem.W.Frag} {mg : Str → Option Value} {base : Heap} {T : List Addr} {aC aD : Addr}
theorem ok_law {f : Addr} {fd : FuncData} (F : Fun K "law" "law" slaw f fd) (m_tuple : mg "tuple" = none) (m_min : mg "min" = none) {f_law_pool : Addr} {fd_law_pool : FuncData} (F_law_pool : Fun K "_law_pool" "_law_pool" s_law_pool f_law_pool fd_law_pool) (G_law_pool : FnOk P w K mg base CX0 11 f_law_pool fd_law_pool ["script"] (spPool K T)) (b_law_pool : Binds K fd_law_pool ["script"] []) (g_law_pool : mg "_law_pool" = some (.ref f_law_pool)) {f_law_any_fine_task : Addr} {fd_law_any_fine_task : FuncData} (F_law_any_fine_task : Fun K "_law_any_fine_task" "_law_any_fine_task" s_law_any_fine_task f_law_any_fine_task fd_law_any_fine_task) (G_law_any_fine_task : FnOk P w K mg base CX0 11 f_law_any_fine_task fd_law_any_fine_task ["pool"] (spAnyF T)) (b_law_any_fine_task : Binds K fd_law_any_fine_task ["pool"] []) (g_law_any_fine_task : mg "_law_any_fine_task" = some (.ref f_law_any_fine_task)) {f_law_same : Addr} {fd_law_same : FuncData} (F_law_same : Fun K "_law_same" "_law_same" s_law_same f_law_same fd_law_same) (G_law_same : FnOk P w K mg base CX0 11 f_law_same fd_law_same ["actual", "due"] (spSame K 4 T)) (b_law_same : Binds K fd_law_same ["actual", "due"] []) (g_law_same : mg "_law_same" = some (.ref f_law_same)) {f_law_draw : Addr} {fd_law_draw : FuncData} (F_law_draw : Fun K "_law_draw" "_law_draw" s_law_draw f_law_draw fd_law_draw) (G_law_draw : FnOk P w K mg base CX0 11 f_law_draw fd_law_draw ["pool", "many"] (spDraw T)) (b_law_draw : Binds K fd_law_draw ["pool", "many"] []) (g_law_draw : mg "_law_draw" = some (.ref f_law_draw)) {freach : Addr} {fdreach : FuncData} (Freach : Fun K "reach" "reach" sreach freach fdreach) (Greach : FnOk P w K mg base CX0 11 freach fdreach ["net", "root", "fines"] (spReach K T aC aD)) (breach : Binds K fdreach ["net", "root", "fines"] []) (greach : mg "reach" = some (.ref freach)) {ffine_moats : Addr} {fdfine_moats : FuncData} (Ffine_moats : Fun K "fine_moats" "fine_moats" sfine_moats ffine_moats fdfine_moats) (Gfine_moats : FnOk P w K mg base CX0 11 ffine_moats fdfine_moats ["net", "root", "fines"] (spFMoats K T aC aD)) (bfine_moats : Binds K fdfine_moats ["net", "root", "fines"] []) (gfine_moats : mg "fine_moats" = some (.ref ffine_moats)) {f_law_times : Addr} {fd_law_times : FuncData} (F_law_times : Fun K "_law_times" "_law_times" s_law_times f_law_times fd_law_times) (G_law_times : FnOk P w K mg base CX0 11 f_law_times fd_law_times ["a", "b"] (spLTimes K T)) (b_law_times : Binds K fd_law_times ["a", "b"] []) (g_law_times : mg "_law_times" = some (.ref f_law_times)) : FnOk P w K mg base CX0 12 f fd ["script"] (spLawF K T) := by
  refine F.ok sclaw (fun vs H Q E h => ?_) (fun cdv A outer s H vs Q E hr h => ?_)
  · obtain ⟨a, ns, rfl, hS, hlen, wd, k⟩ := h
    rfl
  · obtain ⟨a, ns, rfl, hS, hlen, wd, k⟩ := h
    refine ⟨_, (pss_cons (ps_set (i := 1) sclaw.nd rfl (Or.inl rfl) (pe_call G_law_pool hr (by rfl) g_law_pool F_law_pool.kp b_law_pool .nil pass0 (pa_cons (pv 0) pa_nil)))
      (pss_cons (ps_asg (pe_call G_law_any_fine_task hr (by rfl) g_law_any_fine_task F_law_any_fine_task.kp b_law_any_fine_task .nil pass0 (pa_cons (pv 1) pa_nil)) (pg_tup (by rfl) (pgs_cons (pg_name (i := 2) sclaw.nd rfl (Or.inl rfl)) (pgs_cons (pg_name (i := 3) sclaw.nd rfl (Or.inl rfl)) (pgs_cons (pg_name (i := 4) sclaw.nd rfl (Or.inl rfl)) pgs_nil)))))
      (pss_cons (ps_set (i := 5) sclaw.nd rfl (Or.inl rfl) (pe_tup (pa_cons (pe_ix ix_tup (pv 2) pe_int (fun _ _ => rfl)) (pa_cons (pe_callTy call_tuple_of (by rfl) m_tuple (by decide +kernel) (pa_cons (pe_lc (own := [("way", 6)]) (g := (gName 6)) (tt := tYes) rfl sclaw.nd (pi_tup (pe_ix ix_tup (pv 2) pe_int (fun _ _ => rfl))) (blkOk_by (own := [("way", 6)]) (N := ["script", "pool", "drawn", "root", "rows", "net", "way", "fines", "fine", "many", "greater", "more", "paper", "part", "width", "other"]) (sc := defScope slaw) (by decide +kernel)) (fun _ _ _ _ _ => (pg_name (i := 6) sclaw.nd rfl (Or.inl rfl))) (fun _ _ _ _ _ => pts_nil) (fun _ _ _ _ _ => (pe_tup (pa_cons (pe_ix (GE.ix_tupK (K := K)) (pv 6) pe_int (fun _ _ => rfl)) (pa_cons (pe_ix (GE.ix_tupK (K := K)) (pv 6) pe_int (fun _ _ => rfl)) (pa_cons (pe_callB (call_min2 (by rfl)) (by rfl) m_min (by decide +kernel) (pa_cons (pe_ix (GE.ix_tupK (K := K)) (pv 6) pe_int (fun _ _ => rfl)) (pa_cons pe_int pa_nil))) pa_nil)))))) pa_nil)) pa_nil))))
      (pss_cons (ps_set (i := 7) sclaw.nd rfl (Or.inl rfl) (pe_callTy call_tuple_of (by rfl) m_tuple (by decide +kernel) (pa_cons (pe_lc (own := [("fine", 8)]) (g := (gName 8)) (tt := tYes) rfl sclaw.nd (pi_tup (pv 4)) (blkOk_by (own := [("fine", 8)]) (N := ["script", "pool", "drawn", "root", "rows", "net", "way", "fines", "fine", "many", "greater", "more", "paper", "part", "width", "other"]) (sc := defScope slaw) (by decide +kernel)) (fun _ _ _ _ _ => (pg_name (i := 8) sclaw.nd rfl (Or.inl rfl))) (fun _ _ _ _ _ => pts_nil) (fun _ _ _ _ _ => (pe_callB (call_min2 (by rfl)) (by rfl) m_min (by decide +kernel) (pa_cons (pv 8) (pa_cons pe_int pa_nil))))) pa_nil)))
      (pss_cons (ps_set (i := 9) sclaw.nd rfl (Or.inr rfl) (pe_op op_add pe_int (pe_call G_law_draw hr (by rfl) g_law_draw F_law_draw.kp b_law_draw .nil pass0 (pa_cons (pv 1) (pa_cons pe_int pa_nil)))))
      (pss_cons (ps_set (i := 10) sclaw.nd rfl (Or.inl rfl) (pe_tup (pa_cons (pe_ix ix_tup (pv 5) pe_int (fun _ _ => rfl)) (pa_cons (pe_callTy call_tuple_of (by rfl) m_tuple (by decide +kernel) (pa_cons (pe_lc (own := [("way", 6)]) (g := (gName 6)) (tt := tYes) rfl sclaw.nd (pi_tup (pe_ix ix_tup (pv 5) pe_int (fun _ _ => rfl))) (blkOk_by (own := [("way", 6)]) (N := ["script", "pool", "drawn", "root", "rows", "net", "way", "fines", "fine", "many", "greater", "more", "paper", "part", "width", "other"]) (sc := defScope slaw) (by decide +kernel)) (fun _ _ _ _ _ => (pg_name (i := 6) sclaw.nd rfl (Or.inl rfl))) (fun _ _ _ _ _ => pts_nil) (fun _ _ _ _ _ => (pe_tup (pa_cons (pe_ix (GE.ix_tupK (K := K)) (pv 6) pe_int (fun _ _ => rfl)) (pa_cons (pe_ix (GE.ix_tupK (K := K)) (pv 6) pe_int (fun _ _ => rfl)) (pa_cons (pe_op op_mul (pe_ix (GE.ix_tupK (K := K)) (pv 6) pe_int (fun _ _ => rfl)) (pv 9)) pa_nil)))))) pa_nil)) pa_nil))))
      (pss_cons (ps_set (i := 11) sclaw.nd rfl (Or.inl rfl) (pe_callTy call_tuple_of (by rfl) m_tuple (by decide +kernel) (pa_cons (pe_lc (own := [("fine", 8)]) (g := (gName 8)) (tt := tYes) rfl sclaw.nd (pi_tup (pv 7)) (blkOk_by (own := [("fine", 8)]) (N := ["script", "pool", "drawn", "root", "rows", "net", "way", "fines", "fine", "many", "greater", "more", "paper", "part", "width", "other"]) (sc := defScope slaw) (by decide +kernel)) (fun _ _ _ _ _ => (pg_name (i := 8) sclaw.nd rfl (Or.inl rfl))) (fun _ _ _ _ _ => pts_nil) (fun _ _ _ _ _ => (pe_op op_mul (pv 8) (pv 9)))) pa_nil)))
      (pss_cons (ps_if (pt_not (pt_val (pe_call G_law_same hr (by rfl) g_law_same F_law_same.kp b_law_same .nil pass0 (pa_cons (pe_call Greach hr (by rfl) greach Freach.kp breach .nil pass0 (pa_cons (pv 10) (pa_cons (pv 3) (pa_cons (pv 11) pa_nil)))) (pa_cons (pe_call Greach hr (by rfl) greach Freach.kp breach .nil pass0 (pa_cons (pv 5) (pa_cons (pv 3) (pa_cons (pv 7) pa_nil)))) pa_nil))))) (pss_one (ps_ret pe_bl)) pss_nil)
      (pss_cons (ps_set (i := 12) sclaw.nd rfl (Or.inl rfl) (pe_callTy call_tuple_of (by rfl) m_tuple (by decide +kernel) (pa_cons (pe_lc (own := [("part", 13), ("width", 14)]) (tt := tYes) rfl sclaw.nd (pi_tup (pe_call Gfine_moats hr (by rfl) gfine_moats Ffine_moats.kp bfine_moats .nil pass0 (pa_cons (pv 5) (pa_cons (pv 3) (pa_cons (pv 7) pa_nil))))) (blkOk_by (own := [("part", 13), ("width", 14)]) (N := ["script", "pool", "drawn", "root", "rows", "net", "way", "fines", "fine", "many", "greater", "more", "paper", "part", "width", "other"]) (sc := defScope slaw) (by decide +kernel)) (fun _ _ _ _ _ => (GE.pg_tupK (K := K) 2 (pgs_cons (pg_name (i := 13) sclaw.nd rfl (Or.inl rfl)) (pgs_cons (pg_name (i := 14) sclaw.nd rfl (Or.inl rfl)) pgs_nil)))) (fun _ _ _ _ _ => pts_nil) (fun _ _ _ _ _ => (pe_tup (pa_cons (pv 13) (pa_cons (pe_call G_law_times hr (by rfl) g_law_times F_law_times.kp b_law_times .nil pass0 (pa_cons (pv 14) (pa_cons (pe_tup (pa_cons (pv 9) (pa_cons pe_int pa_nil))) pa_nil))) pa_nil))))) pa_nil)))
      (pss_cons (ps_if (pt_not (pt_val (pe_call G_law_same hr (by rfl) g_law_same F_law_same.kp b_law_same .nil pass0 (pa_cons (pe_call Gfine_moats hr (by rfl) gfine_moats Ffine_moats.kp bfine_moats .nil pass0 (pa_cons (pv 10) (pa_cons (pv 3) (pa_cons (pv 11) pa_nil)))) (pa_cons (pv 12) pa_nil))))) (pss_one (ps_ret pe_bl)) pss_nil)
      (pss_cons (ps_set (i := 15) sclaw.nd rfl (Or.inl rfl) (pe_op GE.op_catR (pe_op GE.op_catR (pe_slice GE.sl_tupR (pv 7) po_none (po_some (pv 3))) (pe_tup (pa_cons (pe_call G_law_draw hr (by rfl) g_law_draw F_law_draw.kp b_law_draw .nil pass0 (pa_cons (pv 1) (pa_cons pe_int pa_nil))) pa_nil))) (pe_slice GE.sl_tupR (pv 7) (po_some (pe_op op_add (pv 3) pe_int)) po_none)))
      (pss_cons (ps_if (pt_not (pt_val (pe_call G_law_same hr (by rfl) g_law_same F_law_same.kp b_law_same .nil pass0 (pa_cons (pe_call Gfine_moats hr (by rfl) gfine_moats Ffine_moats.kp bfine_moats .nil pass0 (pa_cons (pv 5) (pa_cons (pv 3) (pa_cons (pv 15) pa_nil)))) (pa_cons (pe_call Gfine_moats hr (by rfl) gfine_moats Ffine_moats.kp bfine_moats .nil pass0 (pa_cons (pv 5) (pa_cons (pv 3) (pa_cons (pv 7) pa_nil)))) pa_nil))))) (pss_one (ps_ret pe_bl)) pss_nil)
      (pss_one (ps_ret (pe_call G_law_same hr (by rfl) g_law_same F_law_same.kp b_law_same .nil pass0 (pa_cons (pe_call Greach hr (by rfl) greach Freach.kp breach .nil pass0 (pa_cons (pv 5) (pa_cons (pv 3) (pa_cons (pv 15) pa_nil)))) (pa_cons (pe_call Greach hr (by rfl) greach Freach.kp breach .nil pass0 (pa_cons (pv 5) (pa_cons (pv 3) (pa_cons (pv 7) pa_nil)))) pa_nil))))))))))))))))), ?_⟩
    refine ⟨_, rfl, a, ns, rfl, hS, hlen, fun p s H1 hp hs hP1 e1 => ?_⟩
    refine ⟨_, rfl, p, s, rfl, hP1, fun t net0 root fv0 n ws0 fs0 H2 W0 rn F0 hn0 hf0 ht hP2 e2 => ?_⟩
    have wd2 := (wd.ext e1).ext e2
    obtain ⟨na, nb, nu, rfl, hna, hnb, hnr⟩ := net_at hn0
    obtain ⟨f0a, rfl, hf0a⟩ := fin_at hf0
    have h24 := W0.ln
    have n12 := W0.n12
    have f0l := F0.ln
    have hnl : nu.length = ws0.length := by rw [hnr.len, List.length_map]
    refine ⟨t, _, rfl, SqT.of ht, rfl, _, _, rfl, _, _, rfl, _, _, rfl, rfl, ?_⟩
    refine ⟨_, rfl, na, _, _, _, rfl, rfl, SqT.of hna, at_of (j := 0) rfl rfl, ?_⟩
    refine ⟨_, rfl, na, _, _, _, rfl, rfl, SqT.of hna, at_of (j := 1) rfl rfl, nb, rfl, ⟨_, SqT.of hnb⟩, fun Dl hD => ?_⟩
    refine lc_tup (K := K) (a := nb) (xs := nu) (fun j H' => ∃ acc, Ext T noM H2 H' ∧ H' Dl = some (.lst acc) ∧ RpL H' (((capW ws0).take j).map wayD) acc) ⟨[], Ext.new hD, upd_same, rpl_nil⟩ (fun j H' _ ⟨_, e, _⟩ => SqT.of (e.tup (fun z => z) hnb)) ?_ ?_
    · rintro j x H3 hx ⟨acc, e3, hD3, hr3⟩
      have hj : j < ws0.length := by have := (List.getElem?_eq_some_iff.mp hx).1; omega
      obtain ⟨x', hx', hr⟩ := hnr.get (i := j) (d := wayD ws0[j]) (by rw [List.getElem?_map, List.getElem?_eq_getElem hj]; rfl)
      rw [hx] at hx'
      obtain rfl := Option.some.inj hx'
      obtain ⟨xa, rfl, hxa⟩ := way_at (Rp.x e3 hr)
      have hcj : ((capW ws0))[j]? = some (ws0[j].1, ws0[j].2.1, (min ws0[j].2.2 3000)) := by unfold capW; rw [List.getElem?_map, List.getElem?_eq_getElem hj]; rfl
      have hal := hr3.len
      rw [List.length_map, List.length_take] at hal
      refine ⟨rfl, tYesI ?_⟩
      refine ⟨_, rfl, xa, _, _, _, rfl, rfl, SqT.of hxa, at_of (j := 0) rfl rfl, _, rfl, xa, _, _, _, rfl, rfl, SqT.of hxa, at_of (j := 1) rfl rfl, _, rfl, xa, _, _, _, rfl, rfl, SqT.of hxa, at_of (j := 2) rfl rfl, _, _, rfl, ?_⟩
      have ev : (if (3000 : Int) < ((ws0[j].2.2 : Nat) : Int) then (3000 : Int) else ((ws0[j].2.2 : Nat) : Int) : Int) = (((min ws0[j].2.2 3000) : Nat) : Int) := by split <;> omega
      refine ⟨by show 3 ≤ sizeLine; decide, fun q hq => ?_⟩
      have eq : Ext T noM H3 (upd H3 q (.tup [.int ws0[j].1, .int ws0[j].2.1, .int (if (3000 : Int) < ((ws0[j].2.2 : Nat) : Int) then (3000 : Int) else ((ws0[j].2.2 : Nat) : Int))])) := Ext.new hq
      have row : Rp (upd H3 q (.tup [.int ws0[j].1, .int ws0[j].2.1, .int (if (3000 : Int) < ((ws0[j].2.2 : Nat) : Int) then (3000 : Int) else ((ws0[j].2.2 : Nat) : Int))])) (wayD (ws0[j].1, ws0[j].2.1, (min ws0[j].2.2 3000))) (.ref q) := by rw [ev]; exact rp_t upd_same (rpl_cons (rp_i _) (rpl_cons (rp_i _) (rpl_cons (rp_i _) rpl_nil)))
      have hD4 := eq.lst (fun z => z) hD3
      generalize (upd H3 q (.tup [.int ws0[j].1, .int ws0[j].2.1, .int (if (3000 : Int) < ((ws0[j].2.2 : Nat) : Int) then (3000 : Int) else ((ws0[j].2.2 : Nat) : Int))])) = H4 at eq row hD4 ⊢
      refine ⟨acc, hD4, small1000 (by omega), acc ++ [.ref q], (e3.trans eq).mut (.inl hD) hD4 ltbl, upd_same, ?_⟩
      rw [take_succ' hcj, List.map_append]
      exact rpl_upd (RpL.snoc (RpL.x eq hr3) row) hD4
    
    rintro H3 ⟨acc3, e3, hD3, hr3⟩
    have hcl : (capW ws0).length = ws0.length := List.length_map _
    rw [hnl, ← hcl, List.take_length] at hr3
    have W := W0.cap
    generalize hws : capW ws0 = ws at hr3 W hcl
    have hle : ∀ {m : Nat}, m ≤ 3 → ∀ w ∈ ws, w.2.2 * m ≤ 10000 := by rw [← hws]; exact fun h => cap_le h
    refine ⟨Dl, acc3, rfl, .inl ⟨SqL.of hD3, fun tb htb => ?_⟩⟩
    have x4 : Ext T noM H3 (upd H3 tb (.tup acc3)) := Ext.new htb
    have htb4 : (upd H3 tb (.tup acc3)) tb = some (.tup acc3) := upd_same
    generalize (upd H3 tb (.tup acc3)) = H4 at x4 htb4 ⊢
    refine ⟨by show 2 ≤ sizeLine; decide, fun tn htn => ?_⟩
    have x5 : Ext T noM H4 (upd H4 tn (.tup [.int (n : Nat), .ref tb])) := Ext.new htn
    have htn5 : (upd H4 tn (.tup [.int (n : Nat), .ref tb])) tn = some (.tup [.int (n : Nat), .ref tb]) := upd_same
    have x35 := e3.trans (x4.trans x5)
    have hP5 := hP2.keep x35
    have wd5 := wd2.ext x35
    have htb5 := x5.tup (fun z => z) htb4
    have hr5 := RpL.x (x4.trans x5) hr3
    have hn5 : Rp (upd H4 tn (.tup [.int (n : Nat), .ref tb])) (netD n ws) (.ref tn) := rp_t htn5 (rpl_cons (rp_i _) (rpl_cons (rp_t htb5 hr5) rpl_nil))
    have hf5 := x35.tup (fun z => z) hf0a
    generalize (upd H4 tn (.tup [.int (n : Nat), .ref tb])) = H5 at x5 htn5 x35 hP5 wd5 htb5 hr5 hn5 hf5 ⊢
    -- fines
    have F := F0.cap
    have fs3 : ∀ f ∈ capF fs0, f ≤ 3000 := fun f hf => by
      obtain ⟨g, _, rfl⟩ := List.mem_map.mp hf
      show min g 3000 ≤ 3000
      omega
    have cfl : (capF fs0).length = fs0.length := List.length_map _
    refine ⟨_, rfl, f0a, rfl, ⟨_, SqT.of hf5⟩, fun Dl hD => ?_⟩
    refine lc_tup (K := K) (a := f0a) (xs := natsV fs0) (fun j H' => Ext T noM H5 H' ∧ H' Dl = some (.lst (natsV ((capF fs0).take j)))) ⟨Ext.new hD, upd_same⟩ (fun j H' _ q => SqT.of (q.1.tup (fun z => z) hf5)) ?_ ?_
    · rintro j x H3 hx ⟨e3, hD3⟩
      have hj : j < fs0.length := by have := (List.getElem?_eq_some_iff.mp hx).1; unfold natsV at this; rw [List.length_map] at this; exact this
      have hkj : fs0[j]? = some fs0[j] := List.getElem?_eq_getElem hj
      have ex : x = .int ((fs0[j] : Nat) : Int) := by
        unfold natsV at hx
        rw [List.getElem?_map, hkj] at hx
        exact (Option.some.inj hx).symm
      subst ex
      have hcj : (capF fs0)[j]? = some (min fs0[j] 3000) := by unfold capF; rw [List.getElem?_map, hkj]; rfl
      have ev : (if (3000 : Int) < ((fs0[j] : Nat) : Int) then (3000 : Int) else ((fs0[j] : Nat) : Int) : Int) = ((min fs0[j] 3000 : Nat) : Int) := by split <;> omega
      refine ⟨rfl, tYesI ?_⟩
      refine ⟨_, rfl, _, _, rfl, _, hD3, ?_, e3.mut (.inl hD) hD3 ltbl, ?_⟩
      · unfold natsV; rw [List.length_map, List.length_take]; exact small1000 (by omega)
      · rw [upd_same, take_succ' hcj]; unfold natsV; rw [List.map_append]
        show some (HO.lst (_ ++ [V.int (if (3000 : Int) < ((fs0[j] : Nat) : Int) then (3000 : Int) else ((fs0[j] : Nat) : Int))])) = _
        rw [ev]; rfl
    
    rintro H6 ⟨e6, hD6⟩
    rw [show (natsV fs0).length = (capF fs0).length by unfold natsV; rw [List.length_map, cfl], List.take_length] at hD6
    generalize hfs : capF fs0 = fs at *
    refine ⟨Dl, _, rfl, .inl ⟨SqL.of hD6, fun fa hfa => ?_⟩⟩
    have x7 : Ext T noM H6 (upd H6 fa (.tup (natsV fs))) := Ext.new hfa
    have hfa7 : (upd H6 fa (.tup (natsV fs))) fa = some (.tup (natsV fs)) := upd_same
    have x57 := e6.trans x7
    have hP7 := hP5.keep x57
    have wd7 := wd5.ext x57
    have hn7 := Rp.x x57 hn5
    have htn7 := x57.tup (fun z => z) htn5
    have htb7 := x57.tup (fun z => z) htb5
    have hr7 := RpL.x x57 hr5
    generalize (upd H6 fa (.tup (natsV fs))) = H7 at x7 hfa7 x57 hP7 wd7 hn7 htn7 htb7 hr7 ⊢
    -- many
    refine ⟨_, rfl, p, s, 2, rfl, hP7, by decide, by decide, fun r8 H8 r80 r81 hP8 e8 => ⟨_, _, rfl, rfl, ?_⟩⟩
    obtain ⟨M, hM, M0, M3⟩ : ∃ M : Nat, 2 + r8 = (M : Int) ∧ 0 < M ∧ M ≤ 3 := ⟨(2 + r8).toNat, by omega, by omega, by omega⟩
    dsimp only
    rw [hM]
    have wd8 := wd7.ext e8
    have htn8 := e8.tup (fun z => hP7.tup _ _ z htn7) htn7
    have htb8 := e8.tup (fun z => hP7.tup _ _ z htb7) htb7
    have hfa8 := e8.tup (fun z => hP7.tup _ _ z hfa7) hfa7
    have hr8 := RpL.p hr7 hP7 e8
    have hn8 := Rp.p hn7 hP7 e8
    have hal : acc3.length = ws.length := by rw [hr8.len, List.length_map]
    have hw24 := W.ln
    refine ⟨_, rfl, tn, _, _, _, rfl, rfl, SqT.of htn8, at_of (j := 0) rfl rfl, ?_⟩
    refine ⟨_, rfl, tn, _, _, _, rfl, rfl, SqT.of htn8, at_of (j := 1) rfl rfl, tb, rfl, ⟨_, SqT.of htb8⟩, fun Dl hD => ?_⟩
    refine lc_tup (K := K) (a := tb) (xs := acc3) (fun j H' => ∃ acc, Ext T noM H8 H' ∧ H' Dl = some (.lst acc) ∧ RpL H' (((sclW M ws).take j).map wayD) acc) ⟨[], Ext.new hD, upd_same, rpl_nil⟩ (fun j H' _ ⟨_, e, _⟩ => SqT.of (e.tup (fun z => z) htb8)) ?_ ?_
    · rintro j x H3 hx ⟨acc, e3, hD3, hr3⟩
      have hj : j < ws.length := by have := (List.getElem?_eq_some_iff.mp hx).1; omega
      obtain ⟨x', hx', hr⟩ := hr8.get (i := j) (d := wayD ws[j]) (by rw [List.getElem?_map, List.getElem?_eq_getElem hj]; rfl)
      rw [hx] at hx'
      obtain rfl := Option.some.inj hx'
      obtain ⟨xa, rfl, hxa⟩ := way_at (Rp.x e3 hr)
      have hcj : ((sclW M ws))[j]? = some (ws[j].1, ws[j].2.1, (ws[j].2.2 * M)) := by unfold sclW; rw [List.getElem?_map, List.getElem?_eq_getElem hj]; rfl
      have hal := hr3.len
      rw [List.length_map, List.length_take] at hal
      refine ⟨rfl, tYesI ?_⟩
      refine ⟨_, rfl, xa, _, _, _, rfl, rfl, SqT.of hxa, at_of (j := 0) rfl rfl, _, rfl, xa, _, _, _, rfl, rfl, SqT.of hxa, at_of (j := 1) rfl rfl, _, rfl, xa, _, _, _, rfl, rfl, SqT.of hxa, at_of (j := 2) rfl rfl, _, rfl, _, _, rfl, rfl, .inr ⟨by omega, by omega⟩, ?_⟩
      have ev : (((ws[j].2.2 : Nat) : Int) * (M : Int) : Int) = (((ws[j].2.2 * M) : Nat) : Int) := (Int.natCast_mul _ _).symm
      refine ⟨by show 3 ≤ sizeLine; decide, fun q hq => ?_⟩
      have eq : Ext T noM H3 (upd H3 q (.tup [.int ws[j].1, .int ws[j].2.1, .int (((ws[j].2.2 : Nat) : Int) * (M : Int))])) := Ext.new hq
      have row : Rp (upd H3 q (.tup [.int ws[j].1, .int ws[j].2.1, .int (((ws[j].2.2 : Nat) : Int) * (M : Int))])) (wayD (ws[j].1, ws[j].2.1, (ws[j].2.2 * M))) (.ref q) := by rw [ev]; exact rp_t upd_same (rpl_cons (rp_i _) (rpl_cons (rp_i _) (rpl_cons (rp_i _) rpl_nil)))
      have hD4 := eq.lst (fun z => z) hD3
      generalize (upd H3 q (.tup [.int ws[j].1, .int ws[j].2.1, .int (((ws[j].2.2 : Nat) : Int) * (M : Int))])) = H4 at eq row hD4 ⊢
      refine ⟨acc, hD4, small1000 (by omega), acc ++ [.ref q], (e3.trans eq).mut (.inl hD) hD4 ltbl, upd_same, ?_⟩
      rw [take_succ' hcj, List.map_append]
      exact rpl_upd (RpL.snoc (RpL.x eq hr3) row) hD4
    
    rintro H9 ⟨acc9, e9, hD9, hr9⟩
    rw [hal, ← len_scl M ws, List.take_length] at hr9
    refine ⟨Dl, acc9, rfl, .inl ⟨SqL.of hD9, fun gb hgb => ?_⟩⟩
    have x10 : Ext T noM H9 (upd H9 gb (.tup acc9)) := Ext.new hgb
    have hgb10 : (upd H9 gb (.tup acc9)) gb = some (.tup acc9) := upd_same
    generalize (upd H9 gb (.tup acc9)) = H10 at x10 hgb10 ⊢
    refine ⟨by show 2 ≤ sizeLine; decide, fun gn hgn => ?_⟩
    have x11 : Ext T noM H10 (upd H10 gn (.tup [.int (n : Nat), .ref gb])) := Ext.new hgn
    have hgn11 : (upd H10 gn (.tup [.int (n : Nat), .ref gb])) gn = some (.tup [.int (n : Nat), .ref gb]) := upd_same
    have x811 := e9.trans (x10.trans x11)
    have hP11 := hP8.keep x811
    have wd11 := wd8.ext x811
    have hn11 := Rp.x x811 hn8
    have hfa11 := x811.tup (fun z => z) hfa8
    have hg11 : Rp (upd H10 gn (.tup [.int (n : Nat), .ref gb])) (netD n (sclW M ws)) (.ref gn) := rp_t hgn11 (rpl_cons (rp_i _) (rpl_cons (rp_t (x11.tup (fun z => z) hgb10) (RpL.x (x10.trans x11) hr9)) rpl_nil))
    generalize (upd H10 gn (.tup [.int (n : Nat), .ref gb])) = H11 at x11 hgn11 x811 hP11 wd11 hn11 hfa11 hg11 ⊢
    have WG := W.scl M0 (hle M3)
    have fl := F.ln
    have sfl : (sclF M fs).length = fs.length := List.length_map _
    -- more
    refine ⟨_, rfl, fa, rfl, ⟨_, SqT.of hfa11⟩, fun Dl hD => ?_⟩
    refine lc_tup (K := K) (a := fa) (xs := natsV fs) (fun j H' => Ext T noM H11 H' ∧ H' Dl = some (.lst (natsV ((sclF M fs).take j)))) ⟨Ext.new hD, upd_same⟩ (fun j H' _ q => SqT.of (q.1.tup (fun z => z) hfa11)) ?_ ?_
    · rintro j x H3 hx ⟨e3, hD3⟩
      have hj : j < fs.length := by have := (List.getElem?_eq_some_iff.mp hx).1; unfold natsV at this; rw [List.length_map] at this; exact this
      have hkj : fs[j]? = some fs[j] := List.getElem?_eq_getElem hj
      have ex : x = .int ((fs[j] : Nat) : Int) := by
        unfold natsV at hx
        rw [List.getElem?_map, hkj] at hx
        exact (Option.some.inj hx).symm
      subst ex
      have hcj : (sclF M fs)[j]? = some (fs[j] * M) := by unfold sclF; rw [List.getElem?_map, hkj]; rfl
      have ev : (((fs[j] : Nat) : Int) * (M : Int) : Int) = ((fs[j] * M : Nat) : Int) := (Int.natCast_mul _ _).symm
      refine ⟨rfl, tYesI ?_⟩
      refine ⟨_, rfl, _, rfl, _, _, rfl, rfl, .inr ⟨by omega, by omega⟩, _, hD3, ?_, e3.mut (.inl hD) hD3 ltbl, ?_⟩
      · unfold natsV; rw [List.length_map, List.length_take]; exact small1000 (by omega)
      · rw [upd_same, take_succ' hcj]; unfold natsV; rw [List.map_append]
        show some (HO.lst (_ ++ [V.int (((fs[j] : Nat) : Int) * (M : Int))])) = _
        rw [ev]; rfl
    
    rintro H12 ⟨e12, hD12⟩
    rw [show (natsV fs).length = (sclF M fs).length by unfold natsV; rw [List.length_map, sfl], List.take_length] at hD12
    refine ⟨Dl, _, rfl, .inl ⟨SqL.of hD12, fun ma hma => ?_⟩⟩
    have x13 : Ext T noM H12 (upd H12 ma (.tup (natsV (sclF M fs)))) := Ext.new hma
    have hma13 : (upd H12 ma (.tup (natsV (sclF M fs)))) ma = some (.tup (natsV (sclF M fs))) := upd_same
    have x1113 := e12.trans x13
    have hP13 := hP11.keep x1113
    have wd13 := wd11.ext x1113
    have hn13 := Rp.x x1113 hn11
    have hg13 := Rp.x x1113 hg11
    have hfa13 := x1113.tup (fun z => z) hfa11
    generalize (upd H12 ma (.tup (natsV (sclF M fs)))) = H13 at x13 hma13 x1113 hP13 wd13 hn13 hg13 hfa13 ⊢
    have FM := F.scl M3 fs3
    have Wo := wf_ok W
    have ech := chF_scl (n := n) (root := root) (fs := fs) (ws := ws) M0 Wo F.bd
    have eal := allF_scl (n := n) (root := root) (fs := fs) (ws := ws) M0 Wo F.bd
    obtain ⟨c1, c2, c3, c4, c5⟩ := chF_ok (root := root) (fs := fs) W
    obtain ⟨t0, b0, m0, J⟩ := allF_J (root := root) Wo F.bd
    have O := J.ok W F rn
    obtain ⟨tg, bg, mg', JG⟩ := allF_J (root := root) (wf_ok WG) FM.bd
    have smr : Sm 4 (.t [chD (chF n root fs ws), chD (lft (hom ws (chF n root fs ws)) n root)]) := sm_reach (by have := c4.len; omega) (by have := lft_len (hom ws (chF n root fs ws)) n root; omega)
    -- reach of the greater task
    refine ⟨_, rfl, _, rfl, _, rfl, .ref gn, .ref ma, n, root, sclF M fs, sclW M ws, rfl, WG, hg13, rp_ch (cs := sclF M fs) hma13, FM, rn, wd13, fun ra ca la H14 hra hca hla e14 => ?_⟩
    rw [ech, hom_scl] at hla
    rw [ech] at hca
    refine ⟨_, rfl, _, rfl, _, rfl, .ref tn, .ref fa, n, root, fs, ws, rfl, W, Rp.x e14 hn13, rp_ch (cs := fs) (e14.tup (fun z => z) hfa13), F, rn, wd13.ext e14, fun rb cb lb H15 hrb hcb hlb e15 => ?_⟩
    refine ⟨.ref ra, .ref rb, _, rfl, rpk_t (SqT.of (e15.tup (fun z => z) hra)) (rpkl_cons (rpk_of (rp_ch (e15.tup (fun z => z) hca))) (rpkl_cons (rpk_of (rp_ch (e15.tup (fun z => z) hla))) rpkl_nil)), rpk_t (SqT.of hrb) (rpkl_cons (rpk_of (rp_ch hcb)) (rpkl_cons (rpk_of (rp_ch hlb)) rpkl_nil)), smr, fun H16 e16 => ⟨_, rfl, iteF ?_⟩⟩
    have x1316 := e14.trans (e15.trans e16)
    have hP16 := hP13.keep x1316
    have wd16 := wd13.ext x1316
    have hn16 := Rp.x x1316 hn13
    have hg16 := Rp.x x1316 hg13
    have hfa16 := x1316.tup (fun z => z) hfa13
    have hma16 := x1316.tup (fun z => z) hma13
    -- the paper
    refine ⟨_, rfl, _, rfl, _, rfl, .ref tn, .ref fa, n, root, fs, ws, rfl, W, hn16, rp_ch (cs := fs) hfa16, F, rn, wd16, fun rs pv H17 PO hpv e17 => ?_⟩
    obtain ⟨qa, qus, rfl, hqa, hqr⟩ := hpv.t
    have hql : qus.length = rs.length := by rw [hqr.len, List.length_map]
    have hrl : rs.length ≤ 300 := by rw [PO.perm.length_eq]; exact O.wl
    have rsl : (sclR M rs).length = rs.length := List.length_map _
    refine ⟨qa, rfl, ⟨_, hqa⟩, fun Dk hDk => ?_⟩
    refine lc_tup (K := K) (a := qa) (xs := qus) (fun j H' => ∃ acc, Ext T noM H17 H' ∧ H' Dk = some (.lst acc) ∧ RpKL K H' (((sclR M rs).take j).map rowP) acc) ⟨[], Ext.new hDk, upd_same, rpkl_nil⟩ (fun j H' _ ⟨_, e, _⟩ => SqT.x hqa e fun z => z) ?_ ?_
    · rintro j x H18 hx ⟨acc, e18, hD18, hr18⟩
      have hj : j < rs.length := by have := (List.getElem?_eq_some_iff.mp hx).1; omega
      have hrj : rs[j]? = some rs[j] := List.getElem?_eq_getElem hj
      obtain ⟨x', hx', hr'⟩ := hqr.get (i := j) (d := rowP rs[j]) (by rw [List.getElem?_map, hrj]; rfl)
      rw [hx] at hx'
      obtain rfl := Option.some.inj hx'
      obtain ⟨xa, v1, fv, rfl, r1, r2, r3⟩ := row2 (RpK.x e18 hr')
      have hwm := O.m.g.w0 _ (PO.perm.mem_iff.mp (List.getElem_mem hj))
      have hsc : (sclR M rs)[j]? = some (rs[j].1, rs[j].2 * M) := by unfold sclR; rw [List.getElem?_map, hrj]; rfl
      have hal := hr18.len
      rw [List.length_map, List.length_take] at hal
      refine ⟨xa, _, rfl, r1, rfl, _, _, rfl, _, _, rfl, rfl, rfl, tYesI ?_⟩
      refine ⟨_, rfl, _, rfl, _, rfl, by show 2 ≤ sizeLine; decide, fun q hq => ?_⟩
      have xq : Ext T noM H18 (upd H18 q (.tup [.int (M : Nat), .int 1])) := Ext.new hq
      have hqq : (upd H18 q (.tup [.int (M : Nat), .int 1])) q = some (.tup [.int (M : Nat), .int 1]) := upd_same
      generalize (upd H18 q (.tup [.int (M : Nat), .int 1])) = H19 at xq hqq ⊢
      refine ⟨fv, .ref q, rs[j].2, (M : Int) * 1, 4096, 1, 50, rfl, FrV.q (r3.x xq), FrQ.int (SqT.of hqq) (by decide), by decide, by decide, by decide, by decide, Nat.lt_of_le_of_lt (show rs[j].2.natAbs ≤ 300 * 40960000 by omega) (by decide), by omega, by decide, by decide, fun z H20 hz e20 => ?_⟩
      have hzv := FrV.times hz
      refine ⟨by show 2 ≤ sizeLine; decide, fun q2 hq2 => ?_⟩
      have xr : Ext T noM H20 (upd H20 q2 (.tup [v1, z])) := Ext.new hq2
      have row : RpK K (upd H20 q2 (.tup [v1, z])) (rowP (rs[j].1, rs[j].2 * M)) (.ref q2) := rpk_t (SqT.of upd_same) (rpkl_cons (RpK.x (xq.trans (e20.trans xr)) r2) (rpkl_cons (hzv.x xr).k rpkl_nil))
      have x1821 := xq.trans (e20.trans xr)
      have hD21 := x1821.lst (fun z => z) hD18
      generalize (upd H20 q2 (.tup [v1, z])) = H21 at xr row x1821 hD21 ⊢
      refine ⟨acc, hD21, small1000 (by omega), acc ++ [.ref q2], (e18.trans x1821).mut (.inl hDk) hD21 ltbl, upd_same, ?_⟩
      rw [take_succ' hsc, List.map_append]
      have t : Tp K H21 (upd H21 Dk (.lst (acc ++ [.ref q2]))) := Tp.mut hD21 (fun xs z => nomatch z) (fun o xs z => nomatch z)
      exact RpKL.snoc (row.tp t.sq) ((RpKL.x x1821 hr18).tp t.sq)
    rintro H18 ⟨acc18, e18, hD18, hr18⟩
    rw [hql, ← rsl, List.take_length] at hr18
    refine ⟨Dk, acc18, rfl, .inl ⟨SqL.of hD18, fun pa hpa => ?_⟩⟩
    have x19 : Ext T noM H18 (upd H18 pa (.tup acc18)) := Ext.new hpa
    have hW19 : RpK K (upd H18 pa (.tup acc18)) (papD (sclR M rs)) (.ref pa) := rpk_t (SqT.of upd_same) (RpKL.x x19 hr18)
    generalize (upd H18 pa (.tup acc18)) = H19 at x19 hW19 ⊢
    have x1619 := e17.trans (e18.trans x19)
    have hP19 := hP16.keep x1619
    have wd19 := wd16.ext x1619
    have hn19 := Rp.x x1619 hn16
    have hg19 := Rp.x x1619 hg16
    have hfa19 := x1619.tup (fun z => z) hfa16
    have hma19 := x1619.tup (fun z => z) hma16
    have kl : ∀ kw ∈ (allF n root fs ws).1.wid, kw.1.length ≤ 1000 := fun kw hk => by
      have := (O.m.g.widOk n12 O.nd O.wl).kl kw hk
      omega
    have smP : Sm 4 (papD (sclR M rs)) := sm_rows (by rw [rsl]; omega) fun kw hk => by
      obtain ⟨kw', q1, rfl⟩ := List.mem_map.mp hk
      show kw'.1.length ≤ 1000
      exact kl kw' (PO.perm.mem_iff.mp q1)
    have smQ : Sm 4 (papD rs) := sm_rows (by omega) fun kw hk => kl _ (PO.perm.mem_iff.mp hk)
    -- the paper of the greater task
    refine ⟨_, rfl, _, rfl, _, rfl, .ref gn, .ref ma, n, root, sclF M fs, sclW M ws, rfl, WG, hg19, rp_ch (cs := sclF M fs) hma19, FM, rn, wd19, fun rs2 pv2 H20 PO2 hpv2 e20 => ?_⟩
    have ers : rs2 = sclR M rs := PO2.uniq JG.nd (by rw [eal]; exact PO.scl M)
    rw [ers] at hpv2
    refine ⟨_, rfl, pv2, .ref pa, papD (sclR M rs), rfl, hpv2, RpK.x e20 hW19, smP, fun H21 e21 => ⟨_, rfl, iteF ?_⟩⟩
    have x1921 := e20.trans e21
    have hP21 := hP19.keep x1921
    have hfa21 := x1921.tup (fun z => z) hfa19
    -- another fine for the root
    have hvl : (natsV fs).length = fs.length := by unfold natsV; rw [List.length_map]
    refine ⟨_, rfl, _, rfl, _, rfl, fa, _, rfl, hfa21, fun q1 G1 g1 y1 => ?_⟩
    have w1 := y1 T
    rw [cut_to] at g1
    have hPG := hP21.keep w1
    refine ⟨_, rfl, p, s, 10001, rfl, hPG, by decide, by decide, fun r22 H22 r220 r221 hP22 e22 => ?_⟩
    obtain ⟨xx, rfl⟩ : ∃ xx : Nat, r22 = (xx : Int) := ⟨r22.toNat, by omega⟩
    have g1' := e22.tup (fun z => hPG.tup _ _ z g1) g1
    have hfaG := w1.tup (fun z => z) hfa21
    have hfa22 := e22.tup (fun z => hPG.tup _ _ z hfaG) hfaG
    refine ⟨by show 1 ≤ sizeLine; decide, fun q2 hq2 => ?_⟩
    have w2 : Ext T noM H22 (upd H22 q2 (.tup [.int (xx : Nat)])) := Ext.new hq2
    have hq23 : (upd H22 q2 (.tup [.int (xx : Nat)])) q2 = some (.tup [.int (xx : Nat)]) := upd_same
    generalize (upd H22 q2 (.tup [.int (xx : Nat)])) = H23 at w2 hq23 ⊢
    have g1'' := w2.tup (fun z => z) g1'
    have hfa23 := w2.tup (fun z => z) hfa22
    refine ⟨q1, q2, _, _, rfl, rfl, g1'', hq23, by rw [List.length_take, hvl, sizeLine_eq]; show min root fs.length + 1 ≤ _; omega, fun q3 G3 g3 y3 => ?_⟩
    have w3 := y3 T
    refine ⟨_, rfl, _, rfl, _, _, rfl, rfl, _, rfl, fa, _, rfl, w3.tup (fun z => z) hfa23, fun q4 G4 g4 y4 => ?_⟩
    have w4 := y4 T
    rw [show ((root : Nat) : Int) + 1 = ((root + 1 : Nat) : Int) by omega, cut_from] at g4
    refine ⟨q3, q4, _, _, rfl, rfl, w4.tup (fun z => z) g3, g4, by rw [List.length_append, List.length_take, List.length_drop, hvl, sizeLine_eq]; show min root fs.length + 1 + _ ≤ _; omega, fun oa G5 g5 y5 => ?_⟩
    have w5 := y5 T
    obtain ⟨FO, hoe⟩ := F.other (root := root) (x := xx) rn (by omega)
    have hgs : G5 oa = some (.tup (natsV (fs.take root ++ [xx] ++ fs.drop (root + 1)))) := by
      rw [g5]
      unfold natsV
      rw [List.map_append, List.map_append, List.map_take, List.map_drop]
      rfl
    generalize fs.take root ++ [xx] ++ fs.drop (root + 1) = gs at FO hoe hgs
    have eag := allF_eq (n := n) (root := root) (ws := ws) hoe
    have ecg := chF_eq (n := n) (root := root) (ws := ws) hoe
    have xG := w2.trans (w3.trans (w4.trans w5))
    have hn21 := Rp.x x1921 hn19
    have hn22 := Rp.p (Rp.x w1 hn21) hPG e22
    have hn24 := Rp.x xG hn22
    have wd24 := (((wd19.ext x1921).ext w1).ext e22).ext xG
    have hfa24 := ((w3.trans w4).trans w5).tup (fun z => z) hfa23
    refine ⟨_, rfl, _, rfl, _, rfl, .ref tn, .ref oa, n, root, gs, ws, rfl, W, hn24, rp_ch (cs := gs) hgs, FO, rn, wd24, fun rs3 pv3 H25 PO3 hpv3 e25 => ?_⟩
    rw [eag] at PO3
    rw [PO3.uniq O.nd PO] at hpv3
    refine ⟨_, rfl, _, rfl, _, rfl, .ref tn, .ref fa, n, root, fs, ws, rfl, W, Rp.x e25 hn24, rp_ch (cs := fs) (e25.tup (fun z => z) hfa24), F, rn, wd24.ext e25, fun rs4 pv4 H26 PO4 hpv4 e26 => ?_⟩
    rw [PO4.uniq O.nd PO] at hpv4
    refine ⟨pv3, pv4, papD rs, rfl, RpK.x e26 hpv3, hpv4, smQ, fun H27 e27 => ⟨_, rfl, iteF ?_⟩⟩
    have x2427 := e25.trans (e26.trans e27)
    refine ⟨_, rfl, _, rfl, _, rfl, .ref tn, .ref oa, n, root, gs, ws, rfl, W, Rp.x x2427 hn24, rp_ch (cs := gs) (x2427.tup (fun z => z) hgs), FO, rn, wd24.ext x2427, fun ra3 ca3 la3 H28 hra3 hca3 hla3 e28 => ?_⟩
    rw [ecg] at hca3 hla3
    refine ⟨_, rfl, _, rfl, _, rfl, .ref tn, .ref fa, n, root, fs, ws, rfl, W, Rp.x (x2427.trans e28) hn24, rp_ch (cs := fs) ((x2427.trans e28).tup (fun z => z) hfa24), F, rn, wd24.ext (x2427.trans e28), fun rb3 cb3 lb3 H29 hrb3 hcb3 hlb3 e29 => ?_⟩
    exact ⟨.ref ra3, .ref rb3, _, rfl, rpk_t (SqT.of (e29.tup (fun z => z) hra3)) (rpkl_cons (rpk_of (rp_ch (e29.tup (fun z => z) hca3))) (rpkl_cons (rpk_of (rp_ch (e29.tup (fun z => z) hla3))) rpkl_nil)), rpk_t (SqT.of hrb3) (rpkl_cons (rpk_of (rp_ch hcb3)) (rpkl_cons (rpk_of (rp_ch hlb3)) rpkl_nil)), smr, fun H30 e30 => k H30⟩
end
end Mw

set_option Elab.async false
set_option linter.all false
set_option maxRecDepth 100000
set_option maxHeartbeats 2000000
namespace GE
open PySem PySem.Spec PyProof.Rows L2
/-! ### the facts of the head, by names -/
section
variable {K : PySem.W.Frag} {x qual : Str} {st : Stmt} {fd : FuncData}
theorem fun_of {f : Addr} (F : FunD K x qual (defArgs st) (defBody st) (defScope st) [] [] f fd) : Fun K x qual st f fd := by
  obtain ⟨oc, od, dV, kV, doc, pm, an, cdv, ct, osl, h1, h2, h3, h4, h5⟩ := F.ex
  rcases h4 with ⟨_, h4⟩ | ⟨h4, _⟩
  · subst h4
    exact ⟨⟨oc, od, kV, doc, pm, an, cdv, ct, osl, h1, h2, h3⟩, F.kp⟩
  · exact absurd rfl h4
theorem funC_of {p : He.Defn} (F : FunD K x qual (defArgs st) (defBody st) (defScope st) [] [] (He.fAd K p) fd) : FunC K x qual st (He.fAd K p) fd (He.codeOf K p) := by
  obtain ⟨oc, od, dV, kV, doc, pm, an, cdv, ct, osl, h1, h2, h3, h4, h5⟩ := F.ex
  rcases h4 with ⟨_, h4⟩ | ⟨h4, _⟩
  · subst h4
    obtain ⟨c, hc⟩ := He.codeIn_ref h3
    subst hc
    have e : He.codeOf K p = c := He.codeOf_eq h2 (by rw [h1])
    rw [e]
    exact ⟨⟨oc, od, kV, doc, pm, an, ct, osl, h1, h2, h3⟩, F.kp⟩
  · exact absurd rfl h4
theorem glo_eq {h : Heap} {mg : Str → Option Value} (X : K.In h) (G : h.Ns mainGlobals mg) {y : Str} {v : Value} (e : He.eqO (PySem.W.nsIn K mainGlobals y) (some (some v)) = true) : mg y = some v := PySem.W.mg_of X G (He.eqO_ok e)
end
end GE

set_option Elab.async false
set_option linter.all false
set_option maxRecDepth 100000
set_option maxHeartbeats 4000000
namespace Mw
open PySem PySem.Spec PyProof.Rows L2 GE
def Das : List He.DefD := [⟨("_law_pool", none), "_law_pool", "_law_pool", defArgs s_law_pool, defBody s_law_pool, defScope s_law_pool, [], []⟩,
  ⟨("_law_draw", none), "_law_draw", "_law_draw", defArgs s_law_draw, defBody s_law_draw, defScope s_law_draw, [], []⟩,
  ⟨("_law_pick", none), "_law_pick", "_law_pick", defArgs s_law_pick, defBody s_law_pick, defScope s_law_pick, [], []⟩,
  ⟨("_law_gcd", none), "_law_gcd", "_law_gcd", defArgs s_law_gcd, defBody s_law_gcd, defScope s_law_gcd, [], []⟩,
  ⟨("_law_ratio", none), "_law_ratio", "_law_ratio", defArgs s_law_ratio, defBody s_law_ratio, defScope s_law_ratio, [], []⟩,
  ⟨("_law_cost", none), "_law_cost", "_law_cost", defArgs s_law_cost, defBody s_law_cost, defScope s_law_cost, [], []⟩,
  ⟨("_law_way", none), "_law_way", "_law_way", defArgs s_law_way, defBody s_law_way, defScope s_law_way, [], []⟩,
  ⟨("_law_net", none), "_law_net", "_law_net", defArgs s_law_net, defBody s_law_net, defScope s_law_net, [], []⟩,
  ⟨("ratio", none), "ratio", "ratio", defArgs sratio, defBody sratio, defScope sratio, [], []⟩,
  ⟨("plus", none), "plus", "plus", defArgs splus, defBody splus, defScope splus, [], []⟩,
  ⟨("minus", none), "minus", "minus", defArgs sminus, defBody sminus, defScope sminus, [], []⟩,
  ⟨("less", none), "less", "less", defArgs sless, defBody sless, defScope sless, [], []⟩,
  ⟨("Field", some "_slack"), "_slack", "Field._slack", defArgs sField__slack, defBody sField__slack, defScope sField__slack, [], []⟩,
  ⟨("Field", some "_first_full_way"), "_first_full_way", "Field._first_full_way", defArgs sField__first_full_way, defBody sField__first_full_way, defScope sField__first_full_way, [], []⟩,
  ⟨("Field", some "_take"), "_take", "Field._take", defArgs sField__take, defBody sField__take, defScope sField__take, [], []⟩,
  ⟨("Field", some "take_full_ways"), "take_full_ways", "Field.take_full_ways", defArgs sField_take_full_ways, defBody sField_take_full_ways, defScope sField_take_full_ways, [], []⟩,
  ⟨("Field", some "_ways_between"), "_ways_between", "Field._ways_between", defArgs sField__ways_between, defBody sField__ways_between, defScope sField__ways_between, [], []⟩,
  ⟨("Field", some "span_until_full"), "span_until_full", "Field.span_until_full", defArgs sField_span_until_full, defBody sField_span_until_full, defScope sField_span_until_full, [], []⟩,
  ⟨("Field", some "grow"), "grow", "Field.grow", defArgs sField_grow, defBody sField_grow, defScope sField_grow, [], []⟩,
  ⟨("Field", some "groups_now"), "groups_now", "Field.groups_now", defArgs sField_groups_now, defBody sField_groups_now, defScope sField_groups_now, [], []⟩,
  ⟨("Field", some "__init__"), "__init__", "Field.__init__", defArgs sField___init__, defBody sField___init__, defScope sField___init__, [], []⟩,
  ⟨("Field", some "paper"), "paper", "Field.paper", defArgs sField_paper, defBody sField_paper, defScope sField_paper, [], []⟩,
  ⟨("_homes", none), "_homes", "_homes", defArgs s_homes, defBody s_homes, defScope s_homes, [], []⟩,
  ⟨("groups", none), "groups", "groups", defArgs sgroups, defBody sgroups, defScope sgroups, [], []⟩,
  ⟨("worth", none), "worth", "worth", defArgs sworth, defBody sworth, defScope sworth, [], []⟩,
  ⟨("_lies_within", none), "_lies_within", "_lies_within", defArgs s_lies_within, defBody s_lies_within, defScope s_lies_within, [], []⟩,
  ⟨("rest_of_fines", none), "rest_of_fines", "rest_of_fines", defArgs srest_of_fines, defBody srest_of_fines, defScope srest_of_fines, [], []⟩,
  ⟨("_law_same", none), "_law_same", "_law_same", defArgs s_law_same, defBody s_law_same, defScope s_law_same, [], []⟩,
  ⟨("_law_times", none), "_law_times", "_law_times", defArgs s_law_times, defBody s_law_times, defScope s_law_times, [], []⟩,
  ⟨("FineGrowth", some "_rest"), "_rest", "FineGrowth._rest", defArgs sFineGrowth__rest, defBody sFineGrowth__rest, defScope sFineGrowth__rest, [], []⟩,
  ⟨("FineGrowth", some "_note"), "_note", "FineGrowth._note", defArgs sFineGrowth__note, defBody sFineGrowth__note, defScope sFineGrowth__note, [], []⟩,
  ⟨("FineGrowth", some "_awake_groups"), "_awake_groups", "FineGrowth._awake_groups", defArgs sFineGrowth__awake_groups, defBody sFineGrowth__awake_groups, defScope sFineGrowth__awake_groups, [], []⟩,
  ⟨("FineGrowth", some "_span_until_change"), "_span_until_change", "FineGrowth._span_until_change", defArgs sFineGrowth__span_until_change, defBody sFineGrowth__span_until_change, defScope sFineGrowth__span_until_change, [], []⟩,
  ⟨("FineGrowth", some "_take_and_note"), "_take_and_note", "FineGrowth._take_and_note", defArgs sFineGrowth__take_and_note, defBody sFineGrowth__take_and_note, defScope sFineGrowth__take_and_note, [], []⟩,
  ⟨("FineGrowth", some "__init__"), "__init__", "FineGrowth.__init__", defArgs sFineGrowth___init__, defBody sFineGrowth___init__, defScope sFineGrowth___init__, [], []⟩,
  ⟨("_group_of", none), "_group_of", "_group_of", defArgs s_group_of, defBody s_group_of, defScope s_group_of, [], []⟩,
  ⟨("_left", none), "_left", "_left", defArgs s_left, defBody s_left, defScope s_left, [], []⟩,
  ⟨("_ends_within", none), "_ends_within", "_ends_within", defArgs s_ends_within, defBody s_ends_within, defScope s_ends_within, [], []⟩,
  ⟨("_first_to_cut", none), "_first_to_cut", "_first_to_cut", defArgs s_first_to_cut, defBody s_first_to_cut, defScope s_first_to_cut, [], []⟩,
  ⟨("_cut_off", none), "_cut_off", "_cut_off", defArgs s_cut_off, defBody s_cut_off, defScope s_cut_off, [], []⟩,
  ⟨("reach", none), "reach", "reach", defArgs sreach, defBody sreach, defScope sreach, [], []⟩,
  ⟨("fine_moats", none), "fine_moats", "fine_moats", defArgs sfine_moats, defBody sfine_moats, defScope sfine_moats, [], []⟩,
  ⟨("_law_fine_task", none), "_law_fine_task", "_law_fine_task", defArgs s_law_fine_task, defBody s_law_fine_task, defScope s_law_fine_task, [], []⟩,
  ⟨("_law_any_fine_task", none), "_law_any_fine_task", "_law_any_fine_task", defArgs s_law_any_fine_task, defBody s_law_any_fine_task, defScope s_law_any_fine_task, [], []⟩,
  ⟨("law", none), "law", "law", defArgs slaw, defBody slaw, defScope slaw, [], []⟩]
def Tfs : List He.Defn := [("Field", some "groups_now"), ("Field", some "paper"), ("groups", none), ("_lies_within", none), ("rest_of_fines", none), ("FineGrowth", some "_awake_groups"), ("_left", none)]
def exB (K : PySem.W.Frag) : Bool := He.tupB K "ZERO" [.int 0, .int 1] && He.eqO (PySem.W.nsIn K mainGlobals "gcd") (some (some (.builtin "math.gcd")))
def Fas : List He.Fa := [.glo "law", .glo "_law_pool", .glo "_law_draw", .glo "_law_pick", .glo "_law_gcd", .glo "_law_ratio", .glo "_law_cost", .glo "_law_way", .glo "_law_net", .glo "ratio", .glo "plus", .glo "minus", .glo "less", .meth "Field" "_slack", .meth "Field" "_first_full_way", .meth "Field" "_take", .meth "Field" "take_full_ways", .meth "Field" "_ways_between", .meth "Field" "span_until_full", .meth "Field" "grow", .meth "Field" "groups_now", .mkr "Field", .meth "Field" "paper", .glo "_homes", .glo "groups", .glo "worth", .glo "_lies_within", .glo "rest_of_fines", .glo "_law_same", .glo "_law_times", .meth "FineGrowth" "_rest", .meth "FineGrowth" "_note", .meth "FineGrowth" "_awake_groups", .meth "FineGrowth" "_span_until_change", .meth "FineGrowth" "_take_and_note", .mkr "FineGrowth", .glo "_group_of", .glo "_left", .glo "_ends_within", .glo "_first_to_cut", .glo "_cut_off", .glo "reach", .glo "fine_moats", .glo "_law_fine_task", .glo "_law_any_fine_task", .free "list", .free "abs", .free "int", .free "len", .free "range", .free "tuple", .free "min", .free "enumerate", .free "sorted", .free "max", .free "all", .free "sum", .free "isinstance", .free "str", .free "bool", .glo "Field", .cls "Field", .noat "Field" "time", .noat "Field" "taken", .noat "Field" "widths", .noat "Field" "_ways", .noat "Field" "_homes", .noat "Field" "_depths", .glo "FineGrowth", .cls "FineGrowth", .noat "FineGrowth" "field", .noat "FineGrowth" "notes", .noat "FineGrowth" "_root", .noat "FineGrowth" "_fines", .glo "ZERO"]
theorem all_mk {l : PySem.W.OpenLaw} {w : World} {K : PySem.W.Frag} {h : Heap} {mg : Str → Option Value} {fa : Addr} (KX : K.In h) (G : h.Ns mainGlobals mg) (hfa : mg "law" = some (.ref fa)) (c : He.SaysX Fas Das [] Tfs exB w h K) : LamX.LawAtS l w K CX0 12 63 "script" mg fa h := by
  have D := c.t.d
  have e := hfa.symm.trans (He.glo_ok KX G (D.fact 0 (f := .glo "law") rfl))
  cases e
  have hex := c.more
  unfold exB at hex
  simp only [Bool.and_eq_true] at hex
  have hzero := He.tupB_ok hex.1 (fun _ => none)
  have m_gcd := GE.glo_eq KX G hex.2
  obtain ⟨fd1, D1⟩ := D.def_ 0 rfl
  have F1 := GE.fun_of (st := s_law_pool) D1
  have b1 := F1.binds (ps := ["script"]) fun _ _ _ _ _ _ us hl => match us, hl with | [_], _ => rfl
  have g1 := He.glo_ok KX G (D.fact 1 (f := .glo "_law_pool") rfl)
  obtain ⟨fd2, D2⟩ := D.def_ 1 rfl
  have F2 := GE.fun_of (st := s_law_draw) D2
  have b2 := F2.binds (ps := ["pool", "many"]) fun _ _ _ _ _ _ us hl => match us, hl with | [_, _], _ => rfl
  have g2 := He.glo_ok KX G (D.fact 2 (f := .glo "_law_draw") rfl)
  obtain ⟨fd3, D3⟩ := D.def_ 2 rfl
  have F3 := GE.fun_of (st := s_law_pick) D3
  have b3 := F3.binds (ps := ["pool", "rows"]) fun _ _ _ _ _ _ us hl => match us, hl with | [_, _], _ => rfl
  have g3 := He.glo_ok KX G (D.fact 3 (f := .glo "_law_pick") rfl)
  obtain ⟨fd4, D4⟩ := D.def_ 3 rfl
  have F4 := GE.fun_of (st := s_law_gcd) D4
  have b4 := F4.binds (ps := ["a", "b"]) fun _ _ _ _ _ _ us hl => match us, hl with | [_, _], _ => rfl
  have g4 := He.glo_ok KX G (D.fact 4 (f := .glo "_law_gcd") rfl)
  obtain ⟨fd5, D5⟩ := D.def_ 4 rfl
  have F5 := GE.fun_of (st := s_law_ratio) D5
  have b5 := F5.binds (ps := ["top", "bottom"]) fun _ _ _ _ _ _ us hl => match us, hl with | [_, _], _ => rfl
  have g5 := He.glo_ok KX G (D.fact 5 (f := .glo "_law_ratio") rfl)
  obtain ⟨fd6, D6⟩ := D.def_ 5 rfl
  have F6 := GE.fun_of (st := s_law_cost) D6
  have b6 := F6.binds (ps := ["pool"]) fun _ _ _ _ _ _ us hl => match us, hl with | [_], _ => rfl
  have g6 := He.glo_ok KX G (D.fact 6 (f := .glo "_law_cost") rfl)
  obtain ⟨fd7, D7⟩ := D.def_ 6 rfl
  have F7 := GE.fun_of (st := s_law_way) D7
  have b7 := F7.binds (ps := ["pool", "places"]) fun _ _ _ _ _ _ us hl => match us, hl with | [_, _], _ => rfl
  have g7 := He.glo_ok KX G (D.fact 7 (f := .glo "_law_way") rfl)
  obtain ⟨fd8, D8⟩ := D.def_ 7 rfl
  have F8 := GE.fun_of (st := s_law_net) D8
  have b8 := F8.binds (ps := ["pool", "most", "ways"]) fun _ _ _ _ _ _ us hl => match us, hl with | [_, _, _], _ => rfl
  have g8 := He.glo_ok KX G (D.fact 8 (f := .glo "_law_net") rfl)
  obtain ⟨fd9, D9⟩ := D.def_ 8 rfl
  have F9 := GE.fun_of (st := sratio) D9
  have b9 := F9.binds (ps := ["top", "bottom"]) fun _ _ _ _ _ _ us hl => match us, hl with | [_, _], _ => rfl
  have g9 := He.glo_ok KX G (D.fact 9 (f := .glo "ratio") rfl)
  obtain ⟨fd10, D10⟩ := D.def_ 9 rfl
  have F10 := GE.fun_of (st := splus) D10
  have b10 := F10.binds (ps := ["first", "second"]) fun _ _ _ _ _ _ us hl => match us, hl with | [_, _], _ => rfl
  have g10 := He.glo_ok KX G (D.fact 10 (f := .glo "plus") rfl)
  obtain ⟨fd11, D11⟩ := D.def_ 10 rfl
  have F11 := GE.fun_of (st := sminus) D11
  have b11 := F11.binds (ps := ["first", "second"]) fun _ _ _ _ _ _ us hl => match us, hl with | [_, _], _ => rfl
  have g11 := He.glo_ok KX G (D.fact 11 (f := .glo "minus") rfl)
  obtain ⟨fd12, D12⟩ := D.def_ 11 rfl
  have F12 := GE.fun_of (st := sless) D12
  have b12 := F12.binds (ps := ["first", "second"]) fun _ _ _ _ _ _ us hl => match us, hl with | [_, _], _ => rfl
  have g12 := He.glo_ok KX G (D.fact 12 (f := .glo "less") rfl)
  obtain ⟨fd13, D13⟩ := D.def_ 12 rfl
  have F13 := GE.fun_of (st := sField__slack) D13
  have b13 := F13.binds (ps := ["self", "a", "b", "cost"]) fun _ _ _ _ _ _ us hl => match us, hl with | [_, _, _, _], _ => rfl
  have mm13 := He.meth_ok (D.fact 13 (f := .meth "Field" "_slack") rfl)
  obtain ⟨fd14, D14⟩ := D.def_ 13 rfl
  have F14 := GE.fun_of (st := sField__first_full_way) D14
  have b14 := F14.binds (ps := ["self"]) fun _ _ _ _ _ _ us hl => match us, hl with | [_], _ => rfl
  have mm14 := He.meth_ok (D.fact 14 (f := .meth "Field" "_first_full_way") rfl)
  obtain ⟨fd15, D15⟩ := D.def_ 14 rfl
  have F15 := GE.fun_of (st := sField__take) D15
  have b15 := F15.binds (ps := ["self", "way"]) fun _ _ _ _ _ _ us hl => match us, hl with | [_, _], _ => rfl
  have mm15 := He.meth_ok (D.fact 15 (f := .meth "Field" "_take") rfl)
  obtain ⟨fd16, D16⟩ := D.def_ 15 rfl
  have F16 := GE.fun_of (st := sField_take_full_ways) D16
  have b16 := F16.binds (ps := ["self"]) fun _ _ _ _ _ _ us hl => match us, hl with | [_], _ => rfl
  have mm16 := He.meth_ok (D.fact 16 (f := .meth "Field" "take_full_ways") rfl)
  obtain ⟨fd17, D17⟩ := D.def_ 16 rfl
  have F17 := GE.fun_of (st := sField__ways_between) D17
  have b17 := F17.binds (ps := ["self"]) fun _ _ _ _ _ _ us hl => match us, hl with | [_], _ => rfl
  have mm17 := He.meth_ok (D.fact 17 (f := .meth "Field" "_ways_between") rfl)
  obtain ⟨fd18, D18⟩ := D.def_ 17 rfl
  have F18 := GE.fun_of (st := sField_span_until_full) D18
  have b18 := F18.binds (ps := ["self", "rising"]) fun _ _ _ _ _ _ us hl => match us, hl with | [_, _], _ => rfl
  have mm18 := He.meth_ok (D.fact 18 (f := .meth "Field" "span_until_full") rfl)
  obtain ⟨fd19, D19⟩ := D.def_ 18 rfl
  have F19 := GE.fun_of (st := sField_grow) D19
  have b19 := F19.binds (ps := ["self", "rising", "span"]) fun _ _ _ _ _ _ us hl => match us, hl with | [_, _, _], _ => rfl
  have mm19 := He.meth_ok (D.fact 19 (f := .meth "Field" "grow") rfl)
  obtain ⟨fd20, D20⟩ := D.def_ 19 rfl
  have F20 := GE.funC_of (p := ("Field", some "groups_now")) (st := sField_groups_now) D20
  have b20 := F20.fun.binds (ps := ["self"]) fun _ _ _ _ _ _ us hl => match us, hl with | [_], _ => rfl
  have mm20 := He.meth_ok (D.fact 20 (f := .meth "Field" "groups_now") rfl)
  obtain ⟨fd21, D21⟩ := D.def_ 20 rfl
  have F21 := GE.fun_of (st := sField___init__) D21
  have b21 := F21.binds (ps := ["self", "net"]) fun _ _ _ _ _ _ us hl => match us, hl with | [_, _], _ => rfl
  have M21 := He.mkr_ok (D.fact 21 (f := .mkr "Field") rfl)
  obtain ⟨fd22, D22⟩ := D.def_ 21 rfl
  have F22 := GE.funC_of (p := ("Field", some "paper")) (st := sField_paper) D22
  have b22 := F22.fun.binds (ps := ["self"]) fun _ _ _ _ _ _ us hl => match us, hl with | [_], _ => rfl
  have mm22 := He.meth_ok (D.fact 22 (f := .meth "Field" "paper") rfl)
  obtain ⟨fd23, D23⟩ := D.def_ 22 rfl
  have F23 := GE.fun_of (st := s_homes) D23
  have b23 := F23.binds (ps := ["net", "choice"]) fun _ _ _ _ _ _ us hl => match us, hl with | [_, _], _ => rfl
  have g23 := He.glo_ok KX G (D.fact 23 (f := .glo "_homes") rfl)
  obtain ⟨fd24, D24⟩ := D.def_ 23 rfl
  have F24 := GE.funC_of (p := ("groups", none)) (st := sgroups) D24
  have b24 := F24.fun.binds (ps := ["net", "choice"]) fun _ _ _ _ _ _ us hl => match us, hl with | [_, _], _ => rfl
  have g24 := He.glo_ok KX G (D.fact 24 (f := .glo "groups") rfl)
  obtain ⟨fd25, D25⟩ := D.def_ 24 rfl
  have F25 := GE.fun_of (st := sworth) D25
  have b25 := F25.binds (ps := ["paper"]) fun _ _ _ _ _ _ us hl => match us, hl with | [_], _ => rfl
  have g25 := He.glo_ok KX G (D.fact 25 (f := .glo "worth") rfl)
  obtain ⟨fd26, D26⟩ := D.def_ 25 rfl
  have F26 := GE.funC_of (p := ("_lies_within", none)) (st := s_lies_within) D26
  have b26 := F26.fun.binds (ps := ["inner", "outer"]) fun _ _ _ _ _ _ us hl => match us, hl with | [_, _], _ => rfl
  have g26 := He.glo_ok KX G (D.fact 26 (f := .glo "_lies_within") rfl)
  obtain ⟨fd27, D27⟩ := D.def_ 26 rfl
  have F27 := GE.funC_of (p := ("rest_of_fines", none)) (st := srest_of_fines) D27
  have b27 := F27.fun.binds (ps := ["fines", "places", "paper"]) fun _ _ _ _ _ _ us hl => match us, hl with | [_, _, _], _ => rfl
  have g27 := He.glo_ok KX G (D.fact 27 (f := .glo "rest_of_fines") rfl)
  obtain ⟨fd28, D28⟩ := D.def_ 27 rfl
  have F28 := GE.fun_of (st := s_law_same) D28
  have b28 := F28.binds (ps := ["actual", "due"]) fun _ _ _ _ _ _ us hl => match us, hl with | [_, _], _ => rfl
  have g28 := He.glo_ok KX G (D.fact 28 (f := .glo "_law_same") rfl)
  obtain ⟨fd29, D29⟩ := D.def_ 28 rfl
  have F29 := GE.fun_of (st := s_law_times) D29
  have b29 := F29.binds (ps := ["a", "b"]) fun _ _ _ _ _ _ us hl => match us, hl with | [_, _], _ => rfl
  have g29 := He.glo_ok KX G (D.fact 29 (f := .glo "_law_times") rfl)
  obtain ⟨fd30, D30⟩ := D.def_ 29 rfl
  have F30 := GE.fun_of (st := sFineGrowth__rest) D30
  have b30 := F30.binds (ps := ["self", "group"]) fun _ _ _ _ _ _ us hl => match us, hl with | [_, _], _ => rfl
  have mm30 := He.meth_ok (D.fact 30 (f := .meth "FineGrowth" "_rest") rfl)
  obtain ⟨fd31, D31⟩ := D.def_ 30 rfl
  have F31 := GE.fun_of (st := sFineGrowth__note) D31
  have b31 := F31.binds (ps := ["self", "found"]) fun _ _ _ _ _ _ us hl => match us, hl with | [_, _], _ => rfl
  have mm31 := He.meth_ok (D.fact 31 (f := .meth "FineGrowth" "_note") rfl)
  obtain ⟨fd32, D32⟩ := D.def_ 31 rfl
  have F32 := GE.funC_of (p := ("FineGrowth", some "_awake_groups")) (st := sFineGrowth__awake_groups) D32
  have b32 := F32.fun.binds (ps := ["self"]) fun _ _ _ _ _ _ us hl => match us, hl with | [_], _ => rfl
  have mm32 := He.meth_ok (D.fact 32 (f := .meth "FineGrowth" "_awake_groups") rfl)
  obtain ⟨fd33, D33⟩ := D.def_ 32 rfl
  have F33 := GE.fun_of (st := sFineGrowth__span_until_change) D33
  have b33 := F33.binds (ps := ["self", "awake"]) fun _ _ _ _ _ _ us hl => match us, hl with | [_, _], _ => rfl
  have mm33 := He.meth_ok (D.fact 33 (f := .meth "FineGrowth" "_span_until_change") rfl)
  obtain ⟨fd34, D34⟩ := D.def_ 33 rfl
  have F34 := GE.fun_of (st := sFineGrowth__take_and_note) D34
  have b34 := F34.binds (ps := ["self"]) fun _ _ _ _ _ _ us hl => match us, hl with | [_], _ => rfl
  have mm34 := He.meth_ok (D.fact 34 (f := .meth "FineGrowth" "_take_and_note") rfl)
  obtain ⟨fd35, D35⟩ := D.def_ 34 rfl
  have F35 := GE.fun_of (st := sFineGrowth___init__) D35
  have b35 := F35.binds (ps := ["self", "net", "root", "fines"]) fun _ _ _ _ _ _ us hl => match us, hl with | [_, _, _, _], _ => rfl
  have M35 := He.mkr_ok (D.fact 35 (f := .mkr "FineGrowth") rfl)
  obtain ⟨fd36, D36⟩ := D.def_ 35 rfl
  have F36 := GE.fun_of (st := s_group_of) D36
  have b36 := F36.binds (ps := ["place", "found"]) fun _ _ _ _ _ _ us hl => match us, hl with | [_, _], _ => rfl
  have g36 := He.glo_ok KX G (D.fact 36 (f := .glo "_group_of") rfl)
  obtain ⟨fd37, D37⟩ := D.def_ 36 rfl
  have F37 := GE.funC_of (p := ("_left", none)) (st := s_left) D37
  have b37 := F37.fun.binds (ps := ["net", "root", "choice"]) fun _ _ _ _ _ _ us hl => match us, hl with | [_, _, _], _ => rfl
  have g37 := He.glo_ok KX G (D.fact 37 (f := .glo "_left") rfl)
  obtain ⟨fd38, D38⟩ := D.def_ 37 rfl
  have F38 := GE.fun_of (st := s_ends_within) D38
  have b38 := F38.binds (ps := ["net", "way", "places"]) fun _ _ _ _ _ _ us hl => match us, hl with | [_, _, _], _ => rfl
  have g38 := He.glo_ok KX G (D.fact 38 (f := .glo "_ends_within") rfl)
  obtain ⟨fd39, D39⟩ := D.def_ 38 rfl
  have F39 := GE.fun_of (st := s_first_to_cut) D39
  have b39 := F39.binds (ps := ["net", "notes", "kept"]) fun _ _ _ _ _ _ us hl => match us, hl with | [_, _, _], _ => rfl
  have g39 := He.glo_ok KX G (D.fact 39 (f := .glo "_first_to_cut") rfl)
  obtain ⟨fd40, D40⟩ := D.def_ 39 rfl
  have F40 := GE.fun_of (st := s_cut_off) D40
  have b40 := F40.binds (ps := ["net", "notes", "kept"]) fun _ _ _ _ _ _ us hl => match us, hl with | [_, _, _], _ => rfl
  have g40 := He.glo_ok KX G (D.fact 40 (f := .glo "_cut_off") rfl)
  obtain ⟨fd41, D41⟩ := D.def_ 40 rfl
  have F41 := GE.fun_of (st := sreach) D41
  have b41 := F41.binds (ps := ["net", "root", "fines"]) fun _ _ _ _ _ _ us hl => match us, hl with | [_, _, _], _ => rfl
  have g41 := He.glo_ok KX G (D.fact 41 (f := .glo "reach") rfl)
  obtain ⟨fd42, D42⟩ := D.def_ 41 rfl
  have F42 := GE.fun_of (st := sfine_moats) D42
  have b42 := F42.binds (ps := ["net", "root", "fines"]) fun _ _ _ _ _ _ us hl => match us, hl with | [_, _, _], _ => rfl
  have g42 := He.glo_ok KX G (D.fact 42 (f := .glo "fine_moats") rfl)
  obtain ⟨fd43, D43⟩ := D.def_ 42 rfl
  have F43 := GE.fun_of (st := s_law_fine_task) D43
  have b43 := F43.binds (ps := ["pool", "most", "ways"]) fun _ _ _ _ _ _ us hl => match us, hl with | [_, _, _], _ => rfl
  have g43 := He.glo_ok KX G (D.fact 43 (f := .glo "_law_fine_task") rfl)
  obtain ⟨fd44, D44⟩ := D.def_ 43 rfl
  have F44 := GE.fun_of (st := s_law_any_fine_task) D44
  have b44 := F44.binds (ps := ["pool"]) fun _ _ _ _ _ _ us hl => match us, hl with | [_], _ => rfl
  have g44 := He.glo_ok KX G (D.fact 44 (f := .glo "_law_any_fine_task") rfl)
  obtain ⟨fd45, D45⟩ := D.def_ 44 rfl
  have F45 := GE.fun_of (st := slaw) D45
  have b45 := F45.binds (ps := ["script"]) fun _ _ _ _ _ _ us hl => match us, hl with | [_], _ => rfl
  have g45 := He.glo_ok KX G (D.fact 0 (f := .glo "law") rfl)
  have m_list := He.free_ok KX G (D.fact 45 (f := .free "list") rfl)
  have m_abs := He.free_ok KX G (D.fact 46 (f := .free "abs") rfl)
  have m_int := He.free_ok KX G (D.fact 47 (f := .free "int") rfl)
  have m_len := He.free_ok KX G (D.fact 48 (f := .free "len") rfl)
  have m_range := He.free_ok KX G (D.fact 49 (f := .free "range") rfl)
  have m_tuple := He.free_ok KX G (D.fact 50 (f := .free "tuple") rfl)
  have m_min := He.free_ok KX G (D.fact 51 (f := .free "min") rfl)
  have m_enumerate := He.free_ok KX G (D.fact 52 (f := .free "enumerate") rfl)
  have m_sorted := He.free_ok KX G (D.fact 53 (f := .free "sorted") rfl)
  have m_max := He.free_ok KX G (D.fact 54 (f := .free "max") rfl)
  have m_all := He.free_ok KX G (D.fact 55 (f := .free "all") rfl)
  have m_sum := He.free_ok KX G (D.fact 56 (f := .free "sum") rfl)
  have m_isinstance := He.free_ok KX G (D.fact 57 (f := .free "isinstance") rfl)
  have m_str := He.free_ok KX G (D.fact 58 (f := .free "str") rfl)
  have m_bool := He.free_ok KX G (D.fact 59 (f := .free "bool") rfl)
  have gField := He.glo_ok KX G (D.fact 60 (f := .glo "Field") rfl)
  have clField := He.cls_ok (D.fact 61 (f := .cls "Field") rfl)
  have nField_time := He.noat_ok (D.fact 62 (f := .noat "Field" "time") rfl)
  have nField_taken := He.noat_ok (D.fact 63 (f := .noat "Field" "taken") rfl)
  have nField_widths := He.noat_ok (D.fact 64 (f := .noat "Field" "widths") rfl)
  have nField__ways := He.noat_ok (D.fact 65 (f := .noat "Field" "_ways") rfl)
  have nField__homes := He.noat_ok (D.fact 66 (f := .noat "Field" "_homes") rfl)
  have nField__depths := He.noat_ok (D.fact 67 (f := .noat "Field" "_depths") rfl)
  have gFineGrowth := He.glo_ok KX G (D.fact 68 (f := .glo "FineGrowth") rfl)
  have clFineGrowth := He.cls_ok (D.fact 69 (f := .cls "FineGrowth") rfl)
  have nFineGrowth_field := He.noat_ok (D.fact 70 (f := .noat "FineGrowth" "field") rfl)
  have nFineGrowth_notes := He.noat_ok (D.fact 71 (f := .noat "FineGrowth" "notes") rfl)
  have nFineGrowth__root := He.noat_ok (D.fact 72 (f := .noat "FineGrowth" "_root") rfl)
  have nFineGrowth__fines := He.noat_ok (D.fact 73 (f := .noat "FineGrowth" "_fines") rfl)
  have fx : FTx K (He.ga K "Field") := ⟨clField, nField_time, nField_taken, nField_widths, nField__ways, nField__homes, nField__depths⟩
  have hz0 : SqT K (fun _ => none) (He.ga K "ZERO") [.int (frX 0), .int (frY 0)] := by rw [fr0.1, fr0.2]; exact hzero
  have g_ZERO := He.glo_ok KX G (D.fact 74 (f := .glo "ZERO") rfl)
  have fy : FYx K (He.ga K "FineGrowth") := ⟨clFineGrowth, nFineGrowth_field, nFineGrowth_notes, nFineGrowth__root, nFineGrowth__fines⟩
  have bL := FunD.bindsA (ps := ["script"]) D45 fun _ _ _ _ _ _ us hl => match us, hl with | [_], _ => rfl
  refine ⟨fd45, [He.cT K ("Field", some "groups_now"), He.cT K ("Field", some "paper"), He.cT K ("groups", none), He.cT K ("_lies_within", none), He.cT K ("rest_of_fines", none), He.cT K ("FineGrowth", some "_awake_groups"), He.cT K ("_left", none)], spLawF K [(He.cT K ("Field", some "groups_now")).2, (He.cT K ("Field", some "paper")).2, (He.cT K ("groups", none)).2, (He.cT K ("_lies_within", none)).2, (He.cT K ("rest_of_fines", none)).2, (He.cT K ("FineGrowth", some "_awake_groups")).2, (He.cT K ("_left", none)).2], (fun p hp => by
    simp only [List.mem_cons, List.not_mem_nil, or_false] at hp
    rcases hp with rfl | rfl | rfl | rfl | rfl | rfl | rfl
    · exact c.empty _ (List.mem_of_getElem? (i := 0) rfl)
    · exact c.empty _ (List.mem_of_getElem? (i := 1) rfl)
    · exact c.empty _ (List.mem_of_getElem? (i := 2) rfl)
    · exact c.empty _ (List.mem_of_getElem? (i := 3) rfl)
    · exact c.empty _ (List.mem_of_getElem? (i := 4) rfl)
    · exact c.empty _ (List.mem_of_getElem? (i := 5) rfl)
    · exact c.empty _ (List.mem_of_getElem? (i := 6) rfl)), (fun p hp => by
    simp only [List.mem_cons, List.not_mem_nil, or_false] at hp
    rcases hp with rfl | rfl | rfl | rfl | rfl | rfl | rfl
    · exact c.out _ (List.mem_of_getElem? (i := 0) rfl)
    · exact c.out _ (List.mem_of_getElem? (i := 1) rfl)
    · exact c.out _ (List.mem_of_getElem? (i := 2) rfl)
    · exact c.out _ (List.mem_of_getElem? (i := 3) rfl)
    · exact c.out _ (List.mem_of_getElem? (i := 4) rfl)
    · exact c.out _ (List.mem_of_getElem? (i := 5) rfl)
    · exact c.out _ (List.mem_of_getElem? (i := 6) rfl)), (fun p hp => by
    simp only [List.mem_cons, List.not_mem_nil, or_false] at hp
    rcases hp with rfl | rfl | rfl | rfl | rfl | rfl | rfl
    · exact PySem.W.codeHd_of_K KX (c.hd _ (List.mem_of_getElem? (i := 0) rfl))
    · exact PySem.W.codeHd_of_K KX (c.hd _ (List.mem_of_getElem? (i := 1) rfl))
    · exact PySem.W.codeHd_of_K KX (c.hd _ (List.mem_of_getElem? (i := 2) rfl))
    · exact PySem.W.codeHd_of_K KX (c.hd _ (List.mem_of_getElem? (i := 3) rfl))
    · exact PySem.W.codeHd_of_K KX (c.hd _ (List.mem_of_getElem? (i := 4) rfl))
    · exact PySem.W.codeHd_of_K KX (c.hd _ (List.mem_of_getElem? (i := 5) rfl))
    · exact PySem.W.codeHd_of_K KX (c.hd _ (List.mem_of_getElem? (i := 6) rfl))), fun s v => bL s [v] rfl, fun H a ns hlen hbits hH hS => ⟨a, ns, rfl, hS, hlen, ?_, fun _ => rfl⟩, fun base XB GB TB => ?_⟩
  · intro P hP
    simp only [List.mem_cons, List.not_mem_nil, or_false] at hP
    rcases hP with hP | hP | hP | hP | hP | hP | hP
    · exact ⟨#[], by rw [hP]; exact hH (He.cT K ("Field", some "groups_now")) (List.mem_of_getElem? (i := 0) rfl), True.intro⟩
    · exact ⟨#[], by rw [hP]; exact hH (He.cT K ("Field", some "paper")) (List.mem_of_getElem? (i := 1) rfl), True.intro⟩
    · exact ⟨#[], by rw [hP]; exact hH (He.cT K ("groups", none)) (List.mem_of_getElem? (i := 2) rfl), True.intro⟩
    · exact ⟨#[], by rw [hP]; exact hH (He.cT K ("_lies_within", none)) (List.mem_of_getElem? (i := 3) rfl), True.intro⟩
    · exact ⟨#[], by rw [hP]; exact hH (He.cT K ("rest_of_fines", none)) (List.mem_of_getElem? (i := 4) rfl), True.intro⟩
    · exact ⟨#[], by rw [hP]; exact hH (He.cT K ("FineGrowth", some "_awake_groups")) (List.mem_of_getElem? (i := 5) rfl), True.intro⟩
    · exact ⟨#[], by rw [hP]; exact hH (He.cT K ("_left", none)) (List.mem_of_getElem? (i := 6) rfl), True.intro⟩
  have G1 := ok__law_pool (T := [(He.cT K ("Field", some "groups_now")).2, (He.cT K ("Field", some "paper")).2, (He.cT K ("groups", none)).2, (He.cT K ("_lies_within", none)).2, (He.cT K ("rest_of_fines", none)).2, (He.cT K ("FineGrowth", some "_awake_groups")).2, (He.cT K ("_left", none)).2]) (P := l.prog) (w := w) (base := base) (mg := mg) F1 m_list
  have G2 := ok__law_draw (T := [(He.cT K ("Field", some "groups_now")).2, (He.cT K ("Field", some "paper")).2, (He.cT K ("groups", none)).2, (He.cT K ("_lies_within", none)).2, (He.cT K ("rest_of_fines", none)).2, (He.cT K ("FineGrowth", some "_awake_groups")).2, (He.cT K ("_left", none)).2]) (P := l.prog) (w := w) (base := base) (mg := mg) F2 m_abs m_int m_len
  have G3 := ok__law_pick (T := [(He.cT K ("Field", some "groups_now")).2, (He.cT K ("Field", some "paper")).2, (He.cT K ("groups", none)).2, (He.cT K ("_lies_within", none)).2, (He.cT K ("rest_of_fines", none)).2, (He.cT K ("FineGrowth", some "_awake_groups")).2, (He.cT K ("_left", none)).2]) (P := l.prog) (w := w) (base := base) (mg := mg) F3 m_len F2 (G2.mono (by decide)) b2 g2
  have G4 := ok__law_gcd (P := l.prog) (w := w) (base := base) (mg := mg) F4 m_range m_int
  have G5 := ok__law_ratio (T := [(He.cT K ("Field", some "groups_now")).2, (He.cT K ("Field", some "paper")).2, (He.cT K ("groups", none)).2, (He.cT K ("_lies_within", none)).2, (He.cT K ("rest_of_fines", none)).2, (He.cT K ("FineGrowth", some "_awake_groups")).2, (He.cT K ("_left", none)).2]) (P := l.prog) (w := w) (base := base) (mg := mg) F5 m_abs F4 (G4.mono (by decide)) b4 g4
  have G6 := ok__law_cost (T := [(He.cT K ("Field", some "groups_now")).2, (He.cT K ("Field", some "paper")).2, (He.cT K ("groups", none)).2, (He.cT K ("_lies_within", none)).2, (He.cT K ("rest_of_fines", none)).2, (He.cT K ("FineGrowth", some "_awake_groups")).2, (He.cT K ("_left", none)).2]) (P := l.prog) (w := w) (base := base) (mg := mg) F6 F2 (G2.mono (by decide)) b2 g2
  have G7 := ok__law_way (T := [(He.cT K ("Field", some "groups_now")).2, (He.cT K ("Field", some "paper")).2, (He.cT K ("groups", none)).2, (He.cT K ("_lies_within", none)).2, (He.cT K ("rest_of_fines", none)).2, (He.cT K ("FineGrowth", some "_awake_groups")).2, (He.cT K ("_left", none)).2]) (P := l.prog) (w := w) (base := base) (mg := mg) F7 F2 (G2.mono (by decide)) b2 g2 F6 (G6.mono (by decide)) b6 g6
  have G8 := ok__law_net (T := [(He.cT K ("Field", some "groups_now")).2, (He.cT K ("Field", some "paper")).2, (He.cT K ("groups", none)).2, (He.cT K ("_lies_within", none)).2, (He.cT K ("rest_of_fines", none)).2, (He.cT K ("FineGrowth", some "_awake_groups")).2, (He.cT K ("_left", none)).2]) (P := l.prog) (w := w) (base := base) (mg := mg) F8 m_range m_tuple m_min m_len F2 (G2.mono (by decide)) b2 g2 F7 (G7.mono (by decide)) b7 g7 F6 (G6.mono (by decide)) b6 g6
  have G9 := ok_ratio (T := [(He.cT K ("Field", some "groups_now")).2, (He.cT K ("Field", some "paper")).2, (He.cT K ("groups", none)).2, (He.cT K ("_lies_within", none)).2, (He.cT K ("rest_of_fines", none)).2, (He.cT K ("FineGrowth", some "_awake_groups")).2, (He.cT K ("_left", none)).2]) (P := l.prog) (w := w) (base := base) (mg := mg) F9 m_gcd
  have GQ9 := okQ_ratio (T := [(He.cT K ("Field", some "groups_now")).2, (He.cT K ("Field", some "paper")).2, (He.cT K ("groups", none)).2, (He.cT K ("_lies_within", none)).2, (He.cT K ("rest_of_fines", none)).2, (He.cT K ("FineGrowth", some "_awake_groups")).2, (He.cT K ("_left", none)).2]) (P := l.prog) (w := w) (base := base) (mg := mg) F9 m_gcd
  have G10 := ok_plus (T := [(He.cT K ("Field", some "groups_now")).2, (He.cT K ("Field", some "paper")).2, (He.cT K ("groups", none)).2, (He.cT K ("_lies_within", none)).2, (He.cT K ("rest_of_fines", none)).2, (He.cT K ("FineGrowth", some "_awake_groups")).2, (He.cT K ("_left", none)).2]) (P := l.prog) (w := w) (base := base) (mg := mg) F10 F9 (G9.mono (by decide)) b9 g9
  have GQ10 := okQ_plus (T := [(He.cT K ("Field", some "groups_now")).2, (He.cT K ("Field", some "paper")).2, (He.cT K ("groups", none)).2, (He.cT K ("_lies_within", none)).2, (He.cT K ("rest_of_fines", none)).2, (He.cT K ("FineGrowth", some "_awake_groups")).2, (He.cT K ("_left", none)).2]) (P := l.prog) (w := w) (base := base) (mg := mg) F10 F9 (GQ9.mono (by decide)) b9 g9
  have G11 := ok_minus (T := [(He.cT K ("Field", some "groups_now")).2, (He.cT K ("Field", some "paper")).2, (He.cT K ("groups", none)).2, (He.cT K ("_lies_within", none)).2, (He.cT K ("rest_of_fines", none)).2, (He.cT K ("FineGrowth", some "_awake_groups")).2, (He.cT K ("_left", none)).2]) (P := l.prog) (w := w) (base := base) (mg := mg) F11 F9 (G9.mono (by decide)) b9 g9
  have GQ11 := okQ_minus (T := [(He.cT K ("Field", some "groups_now")).2, (He.cT K ("Field", some "paper")).2, (He.cT K ("groups", none)).2, (He.cT K ("_lies_within", none)).2, (He.cT K ("rest_of_fines", none)).2, (He.cT K ("FineGrowth", some "_awake_groups")).2, (He.cT K ("_left", none)).2]) (P := l.prog) (w := w) (base := base) (mg := mg) F11 F9 (GQ9.mono (by decide)) b9 g9
  have G12 := ok_less (T := [(He.cT K ("Field", some "groups_now")).2, (He.cT K ("Field", some "paper")).2, (He.cT K ("groups", none)).2, (He.cT K ("_lies_within", none)).2, (He.cT K ("rest_of_fines", none)).2, (He.cT K ("FineGrowth", some "_awake_groups")).2, (He.cT K ("_left", none)).2]) (P := l.prog) (w := w) (base := base) (mg := mg) F12
  have GQ12 := okQ_less (T := [(He.cT K ("Field", some "groups_now")).2, (He.cT K ("Field", some "paper")).2, (He.cT K ("groups", none)).2, (He.cT K ("_lies_within", none)).2, (He.cT K ("rest_of_fines", none)).2, (He.cT K ("FineGrowth", some "_awake_groups")).2, (He.cT K ("_left", none)).2]) (P := l.prog) (w := w) (base := base) (mg := mg) F12
  have G13 := ok_Field__slack (T := [(He.cT K ("Field", some "groups_now")).2, (He.cT K ("Field", some "paper")).2, (He.cT K ("groups", none)).2, (He.cT K ("_lies_within", none)).2, (He.cT K ("rest_of_fines", none)).2, (He.cT K ("FineGrowth", some "_awake_groups")).2, (He.cT K ("_left", none)).2]) (P := l.prog) (w := w) (base := base) (mg := mg) F13 F11 (G11.mono (by decide)) b11 g11 F10 (G10.mono (by decide)) b10 g10 fx
  have G14 := ok_Field__first_full_way (T := [(He.cT K ("Field", some "groups_now")).2, (He.cT K ("Field", some "paper")).2, (He.cT K ("groups", none)).2, (He.cT K ("_lies_within", none)).2, (He.cT K ("rest_of_fines", none)).2, (He.cT K ("FineGrowth", some "_awake_groups")).2, (He.cT K ("_left", none)).2]) (P := l.prog) (w := w) (base := base) (mg := mg) F14 m_enumerate F12 (G12.mono (by decide)) b12 g12 F13 (G13.mono (by decide)) b13 mm13 g_ZERO hz0 fx
  have G15 := ok_Field__take (T := [(He.cT K ("Field", some "groups_now")).2, (He.cT K ("Field", some "paper")).2, (He.cT K ("groups", none)).2, (He.cT K ("_lies_within", none)).2, (He.cT K ("rest_of_fines", none)).2, (He.cT K ("FineGrowth", some "_awake_groups")).2, (He.cT K ("_left", none)).2]) (P := l.prog) (w := w) (base := base) (mg := mg) F15 m_tuple m_sorted fx
  have G16 := ok_Field_take_full_ways (T := [(He.cT K ("Field", some "groups_now")).2, (He.cT K ("Field", some "paper")).2, (He.cT K ("groups", none)).2, (He.cT K ("_lies_within", none)).2, (He.cT K ("rest_of_fines", none)).2, (He.cT K ("FineGrowth", some "_awake_groups")).2, (He.cT K ("_left", none)).2]) (P := l.prog) (w := w) (base := base) (mg := mg) F16 F14 (G14.mono (by decide)) b14 mm14 F15 (G15.mono (by decide)) b15 mm15 fx
  have G17 := ok_Field__ways_between (T := [(He.cT K ("Field", some "groups_now")).2, (He.cT K ("Field", some "paper")).2, (He.cT K ("groups", none)).2, (He.cT K ("_lies_within", none)).2, (He.cT K ("rest_of_fines", none)).2, (He.cT K ("FineGrowth", some "_awake_groups")).2, (He.cT K ("_left", none)).2]) (P := l.prog) (w := w) (base := base) (mg := mg) F17 fx
  have G18 := ok_Field_span_until_full (T := [(He.cT K ("Field", some "groups_now")).2, (He.cT K ("Field", some "paper")).2, (He.cT K ("groups", none)).2, (He.cT K ("_lies_within", none)).2, (He.cT K ("rest_of_fines", none)).2, (He.cT K ("FineGrowth", some "_awake_groups")).2, (He.cT K ("_left", none)).2]) (P := l.prog) (w := w) (base := base) (mg := mg) F18 m_len F17 (G17.mono (by decide)) b17 mm17 F13 (G13.mono (by decide)) b13 mm13 F9 (G9.mono (by decide)) b9 g9 F12 (G12.mono (by decide)) b12 g12 fx
  have G19 := ok_Field_grow (T := [(He.cT K ("Field", some "groups_now")).2, (He.cT K ("Field", some "paper")).2, (He.cT K ("groups", none)).2, (He.cT K ("_lies_within", none)).2, (He.cT K ("rest_of_fines", none)).2, (He.cT K ("FineGrowth", some "_awake_groups")).2, (He.cT K ("_left", none)).2]) (P := l.prog) (w := w) (base := base) (mg := mg) F19 F10 (G10.mono (by decide)) b10 g10 g_ZERO hz0 fx
  have G20 := ok_Field_groups_now (T := [(He.cT K ("Field", some "groups_now")).2, (He.cT K ("Field", some "paper")).2, (He.cT K ("groups", none)).2, (He.cT K ("_lies_within", none)).2, (He.cT K ("rest_of_fines", none)).2, (He.cT K ("FineGrowth", some "_awake_groups")).2, (He.cT K ("_left", none)).2]) (P := l.prog) (w := w) (base := base) (mg := mg) F20 (GE.tabB_of (TB (He.cT K ("Field", some "groups_now")) (List.mem_of_getElem? (i := 0) rfl))) (List.mem_of_getElem? (i := 0) rfl) m_tuple m_enumerate fx
  have G21 := ok_Field___init__ (T := [(He.cT K ("Field", some "groups_now")).2, (He.cT K ("Field", some "paper")).2, (He.cT K ("groups", none)).2, (He.cT K ("_lies_within", none)).2, (He.cT K ("rest_of_fines", none)).2, (He.cT K ("FineGrowth", some "_awake_groups")).2, (He.cT K ("_left", none)).2]) (P := l.prog) (w := w) (base := base) (mg := mg) F21 m_range g_ZERO hz0 fx
  have G22 := ok_Field_paper (T := [(He.cT K ("Field", some "groups_now")).2, (He.cT K ("Field", some "paper")).2, (He.cT K ("groups", none)).2, (He.cT K ("_lies_within", none)).2, (He.cT K ("rest_of_fines", none)).2, (He.cT K ("FineGrowth", some "_awake_groups")).2, (He.cT K ("_left", none)).2]) (P := l.prog) (w := w) (base := base) (mg := mg) F22 (GE.tabB_of (TB (He.cT K ("Field", some "paper")) (List.mem_of_getElem? (i := 1) rfl))) (List.mem_of_getElem? (i := 1) rfl) m_tuple m_sorted fx
  have G23 := ok__homes (T := [(He.cT K ("Field", some "groups_now")).2, (He.cT K ("Field", some "paper")).2, (He.cT K ("groups", none)).2, (He.cT K ("_lies_within", none)).2, (He.cT K ("rest_of_fines", none)).2, (He.cT K ("FineGrowth", some "_awake_groups")).2, (He.cT K ("_left", none)).2]) (P := l.prog) (w := w) (base := base) (mg := mg) F23 m_list m_range m_min m_max
  have G24 := ok_groups (T := [(He.cT K ("Field", some "groups_now")).2, (He.cT K ("Field", some "paper")).2, (He.cT K ("groups", none)).2, (He.cT K ("_lies_within", none)).2, (He.cT K ("rest_of_fines", none)).2, (He.cT K ("FineGrowth", some "_awake_groups")).2, (He.cT K ("_left", none)).2]) (P := l.prog) (w := w) (base := base) (mg := mg) F24 (GE.tabB_of (TB (He.cT K ("groups", none)) (List.mem_of_getElem? (i := 2) rfl))) (List.mem_of_getElem? (i := 2) rfl) m_enumerate m_tuple F23 (G23.mono (by decide)) b23 g23
  have G25 := ok_worth (T := [(He.cT K ("Field", some "groups_now")).2, (He.cT K ("Field", some "paper")).2, (He.cT K ("groups", none)).2, (He.cT K ("_lies_within", none)).2, (He.cT K ("rest_of_fines", none)).2, (He.cT K ("FineGrowth", some "_awake_groups")).2, (He.cT K ("_left", none)).2]) (P := l.prog) (w := w) (base := base) (mg := mg) F25 F10 (GQ10.mono (by decide)) b10 g10 g_ZERO hz0
  have G26 := ok__lies_within (T := [(He.cT K ("Field", some "groups_now")).2, (He.cT K ("Field", some "paper")).2, (He.cT K ("groups", none)).2, (He.cT K ("_lies_within", none)).2, (He.cT K ("rest_of_fines", none)).2, (He.cT K ("FineGrowth", some "_awake_groups")).2, (He.cT K ("_left", none)).2]) (P := l.prog) (w := w) (base := base) (mg := mg) F26 (GE.tabB_of (TB (He.cT K ("_lies_within", none)) (List.mem_of_getElem? (i := 3) rfl))) (List.mem_of_getElem? (i := 3) rfl) m_all
  have G27 := ok_rest_of_fines (T := [(He.cT K ("Field", some "groups_now")).2, (He.cT K ("Field", some "paper")).2, (He.cT K ("groups", none)).2, (He.cT K ("_lies_within", none)).2, (He.cT K ("rest_of_fines", none)).2, (He.cT K ("FineGrowth", some "_awake_groups")).2, (He.cT K ("_left", none)).2]) (P := l.prog) (w := w) (base := base) (mg := mg) F27 (GE.tabB_of (TB (He.cT K ("rest_of_fines", none)) (List.mem_of_getElem? (i := 4) rfl))) (List.mem_of_getElem? (i := 4) rfl) m_sum F11 (GQ11.mono (by decide)) b11 g11 F25 (G25.mono (by decide)) b25 g25 F26.fun (G26.mono (by decide)) b26 g26
  have G28 := (same_all (T := [(He.cT K ("Field", some "groups_now")).2, (He.cT K ("Field", some "paper")).2, (He.cT K ("groups", none)).2, (He.cT K ("_lies_within", none)).2, (He.cT K ("rest_of_fines", none)).2, (He.cT K ("FineGrowth", some "_awake_groups")).2, (He.cT K ("_left", none)).2]) (P := l.prog) (w := w) (base := base) (mg := mg) F28 m_isinstance m_tuple m_str m_int m_len m_bool m_range b28 g28 4)
  have G29 := ok__law_times (T := [(He.cT K ("Field", some "groups_now")).2, (He.cT K ("Field", some "paper")).2, (He.cT K ("groups", none)).2, (He.cT K ("_lies_within", none)).2, (He.cT K ("rest_of_fines", none)).2, (He.cT K ("FineGrowth", some "_awake_groups")).2, (He.cT K ("_left", none)).2]) (P := l.prog) (w := w) (base := base) (mg := mg) F29 F5 (G5.mono (by decide)) b5 g5
  have G30 := ok_FineGrowth__rest (T := [(He.cT K ("Field", some "groups_now")).2, (He.cT K ("Field", some "paper")).2, (He.cT K ("groups", none)).2, (He.cT K ("_lies_within", none)).2, (He.cT K ("rest_of_fines", none)).2, (He.cT K ("FineGrowth", some "_awake_groups")).2, (He.cT K ("_left", none)).2]) (P := l.prog) (w := w) (base := base) (mg := mg) F30 F27.fun (G27.mono (by decide)) b27 g27 F22.fun (G22.mono (by decide)) b22 mm22 fx fy
  have G31 := ok_FineGrowth__note (T := [(He.cT K ("Field", some "groups_now")).2, (He.cT K ("Field", some "paper")).2, (He.cT K ("groups", none)).2, (He.cT K ("_lies_within", none)).2, (He.cT K ("rest_of_fines", none)).2, (He.cT K ("FineGrowth", some "_awake_groups")).2, (He.cT K ("_left", none)).2]) (P := l.prog) (w := w) (base := base) (mg := mg) F31 F12 (G12.mono (by decide)) b12 g12 F30 (G30.mono (by decide)) b30 mm30 fx fy g_ZERO hz0
  have G32 := ok_FineGrowth__awake_groups (T := [(He.cT K ("Field", some "groups_now")).2, (He.cT K ("Field", some "paper")).2, (He.cT K ("groups", none)).2, (He.cT K ("_lies_within", none)).2, (He.cT K ("rest_of_fines", none)).2, (He.cT K ("FineGrowth", some "_awake_groups")).2, (He.cT K ("_left", none)).2]) (P := l.prog) (w := w) (base := base) (mg := mg) F32 (GE.tabB_of (TB (He.cT K ("FineGrowth", some "_awake_groups")) (List.mem_of_getElem? (i := 5) rfl))) (List.mem_of_getElem? (i := 5) rfl) m_tuple F20.fun (G20.mono (by decide)) b20 mm20 F12 (G12.mono (by decide)) b12 g12 F30 (G30.mono (by decide)) b30 mm30 fx fy g_ZERO hz0
  have G33 := ok_FineGrowth__span_until_change (T := [(He.cT K ("Field", some "groups_now")).2, (He.cT K ("Field", some "paper")).2, (He.cT K ("groups", none)).2, (He.cT K ("_lies_within", none)).2, (He.cT K ("rest_of_fines", none)).2, (He.cT K ("FineGrowth", some "_awake_groups")).2, (He.cT K ("_left", none)).2]) (P := l.prog) (w := w) (base := base) (mg := mg) F33 F18 (G18.mono (by decide)) b18 mm18 F30 (G30.mono (by decide)) b30 mm30 F12 (G12.mono (by decide)) b12 g12 fx fy
  have G34 := ok_FineGrowth__take_and_note (T := [(He.cT K ("Field", some "groups_now")).2, (He.cT K ("Field", some "paper")).2, (He.cT K ("groups", none)).2, (He.cT K ("_lies_within", none)).2, (He.cT K ("rest_of_fines", none)).2, (He.cT K ("FineGrowth", some "_awake_groups")).2, (He.cT K ("_left", none)).2]) (P := l.prog) (w := w) (base := base) (mg := mg) F34 F31 (G31.mono (by decide)) b31 mm31 F16 (G16.mono (by decide)) b16 mm16 F20.fun (G20.mono (by decide)) b20 mm20 fx fy
  have G35 := ok_FineGrowth___init__ (T := [(He.cT K ("Field", some "groups_now")).2, (He.cT K ("Field", some "paper")).2, (He.cT K ("groups", none)).2, (He.cT K ("_lies_within", none)).2, (He.cT K ("rest_of_fines", none)).2, (He.cT K ("FineGrowth", some "_awake_groups")).2, (He.cT K ("_left", none)).2]) (P := l.prog) (w := w) (base := base) (mg := mg) F35 F21 (G21.mono (by decide)) b21 M21 F31 (G31.mono (by decide)) b31 mm31 F34 (G34.mono (by decide)) b34 mm34 F32.fun (G32.mono (by decide)) b32 mm32 F20.fun (G20.mono (by decide)) b20 mm20 F19 (G19.mono (by decide)) b19 mm19 F33 (G33.mono (by decide)) b33 mm33 fx fy gField
  have G36 := ok__group_of (T := [(He.cT K ("Field", some "groups_now")).2, (He.cT K ("Field", some "paper")).2, (He.cT K ("groups", none)).2, (He.cT K ("_lies_within", none)).2, (He.cT K ("rest_of_fines", none)).2, (He.cT K ("FineGrowth", some "_awake_groups")).2, (He.cT K ("_left", none)).2]) (P := l.prog) (w := w) (base := base) (mg := mg) F36
  have G37 := ok__left (T := [(He.cT K ("Field", some "groups_now")).2, (He.cT K ("Field", some "paper")).2, (He.cT K ("groups", none)).2, (He.cT K ("_lies_within", none)).2, (He.cT K ("rest_of_fines", none)).2, (He.cT K ("FineGrowth", some "_awake_groups")).2, (He.cT K ("_left", none)).2]) (P := l.prog) (w := w) (base := base) (mg := mg) F37 (GE.tabB_of (TB (He.cT K ("_left", none)) (List.mem_of_getElem? (i := 6) rfl))) (List.mem_of_getElem? (i := 6) rfl) m_tuple m_range F36 (G36.mono (by decide)) b36 g36 F24.fun (G24.mono (by decide)) b24 g24
  have G38 := ok__ends_within (T := [(He.cT K ("Field", some "groups_now")).2, (He.cT K ("Field", some "paper")).2, (He.cT K ("groups", none)).2, (He.cT K ("_lies_within", none)).2, (He.cT K ("rest_of_fines", none)).2, (He.cT K ("FineGrowth", some "_awake_groups")).2, (He.cT K ("_left", none)).2]) (P := l.prog) (w := w) (base := base) (mg := mg) F38 m_len
  have G39 := ok__first_to_cut (T := [(He.cT K ("Field", some "groups_now")).2, (He.cT K ("Field", some "paper")).2, (He.cT K ("groups", none)).2, (He.cT K ("_lies_within", none)).2, (He.cT K ("rest_of_fines", none)).2, (He.cT K ("FineGrowth", some "_awake_groups")).2, (He.cT K ("_left", none)).2]) (P := l.prog) (w := w) (base := base) (mg := mg) F39 m_len F38 (G38.mono (by decide)) b38 g38
  have G40 := ok__cut_off (T := [(He.cT K ("Field", some "groups_now")).2, (He.cT K ("Field", some "paper")).2, (He.cT K ("groups", none)).2, (He.cT K ("_lies_within", none)).2, (He.cT K ("rest_of_fines", none)).2, (He.cT K ("FineGrowth", some "_awake_groups")).2, (He.cT K ("_left", none)).2]) (P := l.prog) (w := w) (base := base) (mg := mg) F40 F39 (G39.mono (by decide)) b39 g39 F38 (G38.mono (by decide)) b38 g38
  have G41 := ok_reach (T := [(He.cT K ("Field", some "groups_now")).2, (He.cT K ("Field", some "paper")).2, (He.cT K ("groups", none)).2, (He.cT K ("_lies_within", none)).2, (He.cT K ("rest_of_fines", none)).2, (He.cT K ("FineGrowth", some "_awake_groups")).2, (He.cT K ("_left", none)).2]) (P := l.prog) (w := w) (base := base) (mg := mg) F41 m_tuple m_sorted F35 (G35.mono (by decide)) b35 M35 F36 (G36.mono (by decide)) b36 g36 F20.fun (G20.mono (by decide)) b20 mm20 F37.fun (G37.mono (by decide)) b37 g37 F40 (G40.mono (by decide)) b40 g40 F38 (G38.mono (by decide)) b38 g38 fx fy gFineGrowth
  have G42 := ok_fine_moats (T := [(He.cT K ("Field", some "groups_now")).2, (He.cT K ("Field", some "paper")).2, (He.cT K ("groups", none)).2, (He.cT K ("_lies_within", none)).2, (He.cT K ("rest_of_fines", none)).2, (He.cT K ("FineGrowth", some "_awake_groups")).2, (He.cT K ("_left", none)).2]) (P := l.prog) (w := w) (base := base) (mg := mg) F42 F22.fun (G22.mono (by decide)) b22 mm22 F35 (G35.mono (by decide)) b35 M35 fx fy gFineGrowth
  have G43 := ok__law_fine_task (T := [(He.cT K ("Field", some "groups_now")).2, (He.cT K ("Field", some "paper")).2, (He.cT K ("groups", none)).2, (He.cT K ("_lies_within", none)).2, (He.cT K ("rest_of_fines", none)).2, (He.cT K ("FineGrowth", some "_awake_groups")).2, (He.cT K ("_left", none)).2]) (P := l.prog) (w := w) (base := base) (mg := mg) F43 m_range m_tuple F8 (G8.mono (by decide)) b8 g8 F2 (G2.mono (by decide)) b2 g2 F3 (G3.mono (by decide)) b3 g3 F6 (G6.mono (by decide)) b6 g6
  have G44 := ok__law_any_fine_task (T := [(He.cT K ("Field", some "groups_now")).2, (He.cT K ("Field", some "paper")).2, (He.cT K ("groups", none)).2, (He.cT K ("_lies_within", none)).2, (He.cT K ("rest_of_fines", none)).2, (He.cT K ("FineGrowth", some "_awake_groups")).2, (He.cT K ("_left", none)).2]) (P := l.prog) (w := w) (base := base) (mg := mg) F44 F43 (G43.mono (by decide)) b43 g43 F3 (G3.mono (by decide)) b3 g3
  have G45 := ok_law (T := [(He.cT K ("Field", some "groups_now")).2, (He.cT K ("Field", some "paper")).2, (He.cT K ("groups", none)).2, (He.cT K ("_lies_within", none)).2, (He.cT K ("rest_of_fines", none)).2, (He.cT K ("FineGrowth", some "_awake_groups")).2, (He.cT K ("_left", none)).2]) (P := l.prog) (w := w) (base := base) (mg := mg) F45 m_tuple m_min F1 (G1.mono (by decide)) b1 g1 F44 (G44.mono (by decide)) b44 g44 F28 (G28.mono (by decide)) b28 g28 F2 (G2.mono (by decide)) b2 g2 F41 (G41.mono (by decide)) b41 g41 F42 (G42.mono (by decide)) b42 g42 F29 (G29.mono (by decide)) b29 g29
  exact G45
end Mw

set_option Elab.async false
set_option linter.all false
set_option maxRecDepth 100000
set_option maxHeartbeats 4000000
open PySem PySem.W PyProof.Rows
set_option maxRecDepth 100000 in
set_option maxHeartbeats 0 in
theorem PySem.Challenge.cw_moatways_k29_scaled_tasks_with_fines_holds : PySem.Challenge.rw_moatways_k29_scaled_tasks_with_fines.Holds := by
  w_on; o_law; o_head (He.hookX 5 Mw.Fas Mw.Das [] Mw.Tfs Mw.exB); (case hw => w_witness2)
  refine LamX.walk_ofTsE (l := PySem.Challenge.rw_moatways_k29_scaled_tasks_with_fines) (n := 63) (k := 12) (x := "script") (CX := fun _ => L2.CX0) rfl (by decide) rfl ⟨rfl, by decide, by decide⟩ ?F (fun _ _ _ _ _ z => z)
  case F =>
    intro w mg fa h Y G hmg
    obtain ⟨K, KX, c⟩ := Y
    exact ⟨K, KX, Mw.all_mk KX G hmg c⟩
