import PyProof.Rows.All
import Wide.All
import OpenK.AllK
import Wide.FinOn
import HandS.ForMost
import HandS.Base
import HandS.Call
import HandS.List
import HandS.Comp
import HandS.Ends
import HandS.Words
import PyProof.ReprRoads
import PyProof.ReprLen
import PyProof.ReprText
import HandS.Wide
import HandS.WideBits
import HandS.Style
import HandS.Zip
import HandS.Flow
import PyProof.Rows.RuleB_pow
import PyProof.FitsInt
import PyProof.Rows.StrJoinMade
import HandS.IsInst
import HandS.TupAny
import HandS.Conv
import HandS.Sort
import HandS.Iter
import HandS.TupMul
import HandS.Text
import PyProof.Rows.ReprOcc
import PyProof.FitsReplace
import PyProof.StrLawsRepr
import HandS.Replace
import KE.GoesMore
import HandS.Exc
import HandS.ExcIs
import HandS.ExcField
import HandS.ExcOwn
import HandS.ExcValue
import KE.KExcIs
import HandS.ExcInit
import HandS.WordsExc
import HandS.MakeKwOnly
import HandS.Lambda
import HandS.Property
import HandS.ClsMeth
import PyProof.CallStr
import HandS.Dict
import PyProof.ReprReads
import PyProof.CallFns
import PyProof.Rows.IntBool
import PyProof.ReprBulk
import HandS.EndTab
import HandS.Head0
import HandS.Head1
import HandS.Head2
import HandS.HeadEnd
import HandS.HeadHook1
import HandS.HeadHook2
import HandS.HeadHook4
import PySem.Challenge.RW_localblocks_k64_versions_put_and_dropped
set_option Elab.async false
set_option linter.all false
set_option maxRecDepth 100000
namespace Loc
open PySem PySem.Spec PyProof.Rows L2
/-! ### defs that are entered while no repr is under way -/
/-- as FnOk, for such an entry alone -/
structure FnG (P : Program) (w : World) (K : PySem.W.Frag) (mg : Str → Option Value) (base : Heap) (CX : CXT)
    (k : Nat) (f : Addr) (fd : FuncData) (ps : List Str) (sp : Sp) : Prop where
  cnt : ∀ {vs H Q E}, sp vs H Q E → vs.length = ps.length
  go : ∀ {A : Around} {out : List Env} {s : Shared} {H : Hp} {ar : Args} {us : List Value} {vs : List V} {Q : VK} {E : XK},
    A.guards = some [] → Room k A → Env0 P w K mg base A out s H → BindsTo s fd ar (ps.zip us) → Vals vs us → sp vs H Q E →
    codeAny (model P w) A (.call (.ref f) ar) (CR CX out P w H s Q E) s
section
variable {P : Program} {w : World} {K : PySem.W.Frag} {mg : Str → Option Value} {base : Heap} {CX : CXT} {k : Nat} {f : Addr} {fd : FuncData} {ps : List Str} {sp : Sp}
theorem FnG.of (F : FnOk P w K mg base CX k f fd ps sp) : FnG P w K mg base CX k f fd ps sp :=
  ⟨fun h => F.len _ _ _ _ h, fun _ hr he hb hv hs => F.run _ _ _ _ _ _ _ _ _ hr he hb hv hs⟩
theorem FnG.up {j : Nat} (F : FnG P w K mg base CX j f fd ps sp) (h : j ≤ k) : FnG P w K mg base CX k f fd ps sp :=
  ⟨F.cnt, fun g hr he hb hv hs => F.go g (hr.mono h) he hb hv hs⟩
/-- a def by its body, entered while no repr is under way -/
theorem fun_okG {x qual : Str} {st : Stmt} {N : List Str} (F : Fun K x qual st f fd) (S : FnScope N ps (defScope st)) (len : ∀ vs H Q E, sp vs H Q E → vs.length = ps.length)
    (hb : ∀ (cdv : Value) (A : Around) (out : List Env) (s : Shared) (H : Hp) (vs : List V) (Q : VK) (E : XK), A.guards = some [] →
      Room k (A.deeper (envOfC qual (defScope st) s.heap.objs.size f cdv)) → sp vs H Q E →
      ∃ t, PSs (cxOf CX P w K mg base N qual (defScope st) f cdv A out s H E).nox (defBody st) t ∧ t { nx := fun _ H' => Q .non H', rt := Q } (start N vs) H) :
    FnG P w K mg base CX (k + 1) f fd ps sp := by
  refine ⟨fun h => len _ _ _ _ h, fun {A out s H ar us vs Q E} hg hr e0 hbd r hsp => ?_⟩
  obtain ⟨oc, od, kV, doc, pm, an, cdv, ct, osl, rfl, lk, hcd⟩ := F.ex
  obtain ⟨t, ht, hq⟩ := hb cdv A out s H vs Q E hg (hr.deeper _) hsp
  have KX : K.In s.heap := e0.mod.kin.keeps fun b o e => (e0.bs b o e).1
  have lim : s.heap.NoLimit := e0.mod.nolimit.keeps fun b o e => (e0.bs b o e).1
  have kinds : ∀ y ∈ ps.zip us, (defScope st).names.lookup y.1 = some .local ∨ ((defScope st).names.lookup y.1 = some .cell ∧
      ((cellsFrom (s.heap.objs.size + 1) (defScope st).names []).lookup y.1).isSome = true) := by
    rintro ⟨n, v⟩ hy
    exact (S.par n (List.of_mem_zip hy).1).elim .inl fun q => .inr ⟨q, PySem.W.cellsFrom_some _ _ _ (.inl q)⟩
  refine codeAny_call_function hr.depth (KX _ _ lk) rfl S.co S.gen rfl (PySem.W.codeRec_of KX hcd) (hbd _ _ _ _ ?_)
  refine wpAny_newFunctionEnv_cells S.kind kinds fun env he s1 x => ?_
  subst he
  refine ⟨lim.keeps x.toInCall.keep, codeAny_func ?_⟩
  have I := inv_start (CX := CX) (E := E) (P := P) (w := w) S hr.hd e0 (len _ _ _ _ hsp) r x
  refine wpAny_mono (ht.nox.run [] s1 (start N vs) H _ I hq) (fun fl s' hs => ?_) fun _ _ hs => hs
  cases fl with
  | ret u => exact let ⟨v, σ', H', J, rv, q⟩ := hs; ⟨v, H', J.os, J.bare, J.base, J.hok, rv, q⟩
  | next => exact let ⟨σ', H', J, q⟩ := hs; ⟨V.non, H', J.os, J.bare, J.base, J.hok, rfl, q⟩
  | brk => exact let ⟨_, _, _, q⟩ := hs; q.elim
  | cont => exact let ⟨_, _, _, q⟩ := hs; q.elim
end
/-! ### repr of nested data -/
/-- repr(v), v nested data (no dict) that a heap bears -/
def rRep (K : PySem.W.Frag) : List V → Hp → VK → Prop := fun xs H Q => ∃ a d, xs = [.ref a] ∧ Dp K H (.ref a) d ∧
  d.showable = true ∧ d.hasDict = false ∧ d.depth ≤ 62 ∧ d.shown.length ≤ sizeLine ∧ Q (.str d.shown) H
theorem call_rep {X : Cx} {k : Nat} (hr : Room k X.A) (hg : X.A.guards = some []) : CallR X (.builtin "repr") (rRep X.K) := by
  intro pins s σ H xs us Q I r h
  obtain ⟨a, d, rfl, hd, h1, h2, h3, h4, q⟩ := h
  obtain ⟨u, rfl, ru⟩ := vals1 r
  cases ru
  obtain ⟨as, rd⟩ := Dp.reads I d _ _ hd rfl
  have hu := hr.units
  exact repr_of_reads' rd h1 (PyData.noDict_hsm h2) hg (by omega) (fun _ _ e => e) (fun h' u tk hk => ⟨.str d.shown, H, I.kept hk, ⟨u, rfl⟩, q⟩) h4
/-! ### nested data that a heap bears -/
theorem DpAll.ints {K : PySem.W.Frag} {H : Hp} : ∀ ns : List Int, DpAll K H (ns.map V.int) (ns.map PyData.int)
  | [] => .nil
  | n :: r => .cons (.int n) (DpAll.ints r)
mutual
theorem Dp.same {K : PySem.W.Frag} {H H' : Hp} (e : ∀ a, (∀ xs, SqL K H a xs → SqL K H' a xs) ∧ ∀ xs, SqT K H a xs → SqT K H' a xs) : ∀ {v : V} {d : PyData}, Dp K H v d → Dp K H' v d
  | _, _, .non => .non
  | _, _, .bl b => .bl b
  | _, _, .int i => .int i
  | _, _, .str x => .str x
  | _, _, .lst h t => .lst ((e _).1 _ h) (DpAll.same e t)
  | _, _, .tup h t => .tup ((e _).2 _ h) (DpAll.same e t)
theorem DpAll.same {K : PySem.W.Frag} {H H' : Hp} (e : ∀ a, (∀ xs, SqL K H a xs → SqL K H' a xs) ∧ ∀ xs, SqT K H a xs → SqT K H' a xs) : ∀ {vs : List V} {ds : List PyData}, DpAll K H vs ds → DpAll K H' vs ds
  | _, _, .nil => .nil
  | _, _, .cons h t => .cons (Dp.same e h) (DpAll.same e t)
end
end Loc

set_option Elab.async false
set_option linter.all false
set_option maxRecDepth 100000
namespace Loc
open PySem PySem.Spec PyProof.Rows L2
/-- the law's call, its def entered while no repr is under way -/
theorem callG {P : Program} {w : World} {K : PySem.W.Frag} {mg mb : Str → Option Value} {k : Nat} {fa a : Addr} {fd : FuncData} {x : Str} {sp : Sp} {s : Shared} {vs : List Value} {ns : List Int}
    (KX : K.In s.heap) (g1 : s.heap.Ns mainGlobals mg) (g2 : s.heap.Ns builtinsNs mb) (g3 : ∀ x : Str, x ≠ "__name__" → mb x = bootBuiltins x) (lim : s.heap.NoLimit) (gs : s.gens = #[])
    (ha : s.heap.get? a = some { cls := .type "list", data := .seq vs.toArray }) (hi : IntsAre vs ns) (hl : ns.length ≤ sizeLine) (hr : Room k callerA)
    (F : ∀ base : Heap, K.In base → base.Ns mainGlobals mg → FnG P w K mg base CX0 k fa fd [x] sp) (hb : ∀ (s : Shared) (u : Value), BindsTo s fd ⟨[u], []⟩ [(x, u)])
    (hsp : ∀ H : Hp, SqL K H a (ns.map V.int) → sp [.ref a] H (fun v _ => v = .bl true) fun _ _ _ => False) :
    codeAny (model P w) callerA (.call (.ref fa) ⟨[.ref a], []⟩) (fun r s' => r = .ok (.ret (.bool true)) ∧ OldK s.heap s'.heap ∧ s'.os = s.os ∧ AllBare s'.gens) s := by
  have rv := vals_ints hi
  have ln := hi.length
  -- H tracks at most the script, and that only where the module has not written it
  have main : ∀ H : Hp, (∀ b, H b = none ∨ (b = a ∧ K.lookup a = none ∧ ∃ o xs, H b = some (.frz o (.lst xs)))) → SqL K H a (ns.map V.int) → HOk P w H s.heap →
      codeAny (model P w) callerA (.call (.ref fa) ⟨[.ref a], []⟩) (fun r s' => r = .ok (.ret (.bool true)) ∧ OldK s.heap s'.heap ∧ s'.os = s.os ∧ AllBare s'.gens) s := by
    intro H only sq hok
    have nsOf : ∀ {b : Addr} {m : Str → Option Value}, s.heap.Ns b m → (hidT s.heap H).Ns b m := by
      rintro b m ⟨o, es, ep, e, d, r⟩
      refine ⟨o, es, ep, hidT_get e ?_, d, r⟩
      rcases only b with z | ⟨rfl, _, _⟩
      · exact z
      · rw [ha] at e
        cases e
        exact Data.noConfusion d
    have kb : K.In (hidT s.heap H) := fun b o e => hidT_get (KX b o e) (by
      rcases only b with z | ⟨rfl, z, _⟩
      · exact z
      · rw [z] at e
        cases e)
    obtain ⟨mc, l1, l2⟩ := lim
    have e0 : Env0 P w K mg (hidT s.heap H) callerA [] s H :=
      { frames := rfl, mod := ⟨kb, nsOf g1, ⟨mb, nsOf g2, g3⟩, ⟨mc, nsOf l1, l2⟩⟩, bs := fun _ _ e => of_hidT e, bsz := Nat.le_of_eq (hidT_size _ _), funs := trivial,
        frf := fun b hb => absurd (show b ∈ ([] : List Addr) from hb) List.not_mem_nil, hok := hok, bare := .of_eq gs }
    refine codeAny_mono ((F _ kb (nsOf g1)).go (us := [.ref a]) (vs := [.ref a]) rfl hr e0 (hb s (.ref a)) (.cons rfl .nil) (hsp H sq)) fun r s' h => ?_
    match r, h with
    | .error e, h => exact h.elim
    | .ok .next, h => exact h.elim
    | .ok .brk, h => exact h.elim
    | .ok .cont, h => exact h.elim
    | .ok (.ret u), ⟨v, H', os, bare, un, hok', rel, q⟩ =>
      have q' : v = .bl true := q
      subst q'
      have ru : u = Value.bool true := rel
      subst ru
      refine ⟨rfl, OldK.of_keep fun b o e => ?_, os, bare⟩
      rcases only b with z | ⟨_, _, ob, xs, z⟩
      · exact un.keep b o e z (fun m => absurd (show b ∈ ([] : List Addr) from m) List.not_mem_nil) List.not_mem_nil
      · have o1 := (hok b _ z).1
        have o2 := (hok' b _ (un.frzs b ob _ z)).1
        rw [e] at o1
        cases o1
        exact o2
  cases hk : K.lookup a with
  | some o =>
    have e := KX a o hk
    rw [ha] at e
    cases e
    refine main (fun _ => none) (fun _ => .inl rfl) (.inr ⟨_, vs.toArray, _, hk, rfl, rfl, rfl, ?_, by simpa using rv⟩) fun b u z => nomatch (show (none : Option HO) = some u from z)
    rw [List.size_toArray, ln]
    exact hl
  | none =>
    refine main (fun b => if b = a then some (.frz { cls := .type "list", data := .seq vs.toArray } (.lst (ns.map V.int))) else none) (fun b => ?_) (.inl (.inr ⟨_, if_pos rfl⟩)) fun b u z => ?_
    · by_cases e : b = a
      · exact .inr ⟨e, hk, _, _, if_pos e⟩
      · exact .inl (if_neg e)
    · by_cases e : b = a
      · have z' := (if_pos e).symm.trans z
        cases z'
        rw [e]
        exact ⟨ha, by rw [List.length_map]; exact hl, vs, _, rv, ha⟩
      · have z' := (if_neg e).symm.trans z
        cases z'
/-- the goal that k_head leaves, from such a promise of the law's def -/
theorem walkG {l : PySem.W.OpenLaw} {n k : Nat} {q : Program} {loose : List Str} {XP : (Str → Option Value) → Heap → Prop} {YP : World → Heap → Prop} {d : DefRec} {K : Params → PySem.W.Frag} {sp : PySem.W.Frag → Sp} {x : Str}
    (hn : l.most = some n) (hz : n ≤ sizeLine) (hd : d.params.defaults = []) (hr : Room k callerA) (hY : ∀ (w : World) (h : Heap), YP w h → (K w.params).In h)
    (F : ∀ (w : World) (mg : Str → Option Value) (fa : Addr) (h : Heap), (K w.params).In h → h.Ns mainGlobals mg → mg d.name = some (.ref fa) →
      ∃ fd : FuncData, (∀ (s : Shared) (u : Value), BindsTo s fd ⟨[u], []⟩ [(x, u)]) ∧
        ∀ base : Heap, (K w.params).In base → base.Ns mainGlobals mg → FnG l.prog w (K w.params) mg base CX0 k fa fd [x] (sp (K w.params)))
    (hsp : ∀ (K : PySem.W.Frag) (H : Hp) (a : Addr) (ns : List Int), ns.length ≤ n → SqL K H a (ns.map V.int) → sp K [.ref a] H (fun v _ => v = .bl true) fun _ _ _ => False) :
    PySem.W.WalkO q loose XP YP l.row.toRowW d [] (fun f vs => PySem.call f vs) := by
  refine Att.attach_call hn hd fun w s0 s1 mg mb fa o pm cd doc a vs ns G Y ho hd' hcd hmg hobj hints hlen hg => ?_
  obtain ⟨fd, hb, hF⟩ := F w mg fa _ (hY w _ Y) G.T.g hmg
  exact callG (hY w _ Y) G.T.g G.T.b G.T.builtins G.T.nolimit hg hobj hints (Nat.le_trans hlen hz) hr hF hb fun H hS => hsp _ H a ns hlen hS
end Loc

set_option Elab.async false
set_option linter.all false
set_option maxRecDepth 100000
/-! ### the heap but for one object -/
namespace Loc
open PySem PySem.Spec PyProof.Rows L2
/-- all but what stands at p is as it was -/
def But (p : Addr) (H H' : Hp) : Prop := ∀ b o, b ≠ p → H b = some o → H' b = some o
theorem But.refl (p : Addr) (H : Hp) : But p H H := fun _ _ _ h => h
theorem But.trans {p : Addr} {H H1 H2 : Hp} (a : But p H H1) (b : But p H1 H2) : But p H H2 := fun c o n h => b c o n (a c o n h)
theorem But.set {p : Addr} {H : Hp} {o : HO} : But p H (upd H p o) := fun b _ n h => by rw [upd_ne n]; exact h
theorem But.new {p q : Addr} {H : Hp} {o : HO} (h : H q = none) : But p H (upd H q o) := fun b _ _ e => by rw [upd_ne (ne_of_none e h)]; exact e
theorem But.at {p b : Addr} {H H' : Hp} {o : HO} (e : But p H H') (n : b ≠ p) (h : H b = some o) : H' b = some o := e b o n h
theorem But.sql {p a : Addr} {K : PySem.W.Frag} {H H' : Hp} {xs : List V} (e : But p H H') (n : a ≠ p) (h : SqL K H a xs) : SqL K H' a xs := by
  rcases h with (h | ⟨o, h⟩) | h
  · exact .inl (.inl (e _ _ n h))
  · exact .inl (.inr ⟨o, e _ _ n h⟩)
  · exact .inr h
/-- a tuple is no list -/
theorem But.sqt {p a : Addr} {K : PySem.W.Frag} {H H' : Hp} {xs ys : List V} (e : But p H H') (hp : H p = some (.lst ys)) (h : SqT K H a xs) : SqT K H' a xs := by
  rcases h with (h | ⟨o, h⟩) | h
  · exact .inl (.inl (e _ _ (ne_of h hp (by intro z; cases z)) h))
  · exact .inl (.inr ⟨o, e _ _ (ne_of h hp (by intro z; cases z)) h⟩)
  · exact .inr h
/-! ### the pot that the law draws from -/
/-- a pot's three numbers, drawn from at most c times -/
def PotO (o : HO) (c : Nat) : Prop := ∃ own mix cnt : Int, o = .lst [.int own, .int mix, .int cnt] ∧ 0 ≤ own ∧ own < 2 ^ 1000 ∧ 0 ≤ mix ∧ mix < 2305843009213693952 ∧ 0 ≤ cnt ∧ cnt ≤ c
def Pot (H : Hp) (p : Addr) (c : Nat) : Prop := ∃ o, H p = some o ∧ PotO o c
theorem PotO.le {o : HO} {c d : Nat} (h : PotO o c) (l : c ≤ d) : PotO o d := by
  obtain ⟨a, b, e, h1, h2, h3, h4, h5, h6, h7⟩ := h
  exact ⟨a, b, e, h1, h2, h3, h4, h5, h6, by omega⟩
theorem Pot.le {H : Hp} {p : Addr} {c d : Nat} (h : Pot H p c) (l : c ≤ d) : Pot H p d := let ⟨o, e, q⟩ := h; ⟨o, e, q.le l⟩
theorem Pot.ls {H : Hp} {p : Addr} {c : Nat} (h : Pot H p c) : ∃ ys, H p = some (.lst ys) := by
  obtain ⟨o, e, a, b, z, rfl, _⟩ := h
  exact ⟨_, e⟩
theorem Pot.new {H : Hp} {p q : Addr} {c : Nat} {o : HO} (h : Pot H p c) (n : H q = none) : Pot (upd H q o) p c := by
  obtain ⟨x, e, r⟩ := h
  exact ⟨x, by rw [upd_ne (ne_of_none e n)]; exact e, r⟩
theorem Pot.oth {H : Hp} {p q : Addr} {c : Nat} {o : HO} (h : Pot H p c) (n : p ≠ q) : Pot (upd H q o) p c := by
  obtain ⟨x, e, r⟩ := h
  exact ⟨x, by rw [upd_ne n]; exact e, r⟩
theorem Pot.put {H : Hp} {p : Addr} {c : Nat} {o : HO} (h : PotO o c) : Pot (upd H p o) p c := ⟨o, upd_same, h⟩

/-- script: the script; k: a small number -/
def spPot (K : PySem.W.Frag) : Sp := fun vs H Q _ => ∃ (a : Addr) (ns : List Int) (k : Nat), vs = [.ref a, .int k] ∧ SqL K H a (ns.map V.int) ∧ ns.length ≤ 1000 ∧ k ≤ 1000 ∧
  ∀ p o, H p = none → PotO o 0 → Q (.ref p) (upd H p o)
def spTake : Sp := fun vs H Q _ => ∃ (p : Addr) (b : Int) (c : Nat), vs = [.ref p, .int b] ∧ Pot H p c ∧ c < 1000000 ∧ 0 < b ∧ b < 2 ^ 1000 ∧
  ∀ (d : Int) H', 0 ≤ d → d < b → But p H H' → Pot H' p (c + 1) → Q (.int d) H'
def spOf : Sp := fun vs H Q _ => ∃ (p a : Addr) (xs : List V) (c : Nat), vs = [.ref p, .ref a] ∧ Pot H p c ∧ c < 1000000 ∧ a ≠ p ∧ H a = some (.lst xs) ∧ xs ≠ [] ∧ xs.length ≤ 1000 ∧
  ∀ (j : Nat) (x : V) H', xs[j]? = some x → But p H H' → Pot H' p (c + 1) → Q x H'

/-- ** of a great number -/
def CPowW (i j : Int) : Prop := 0 ≤ j ∧ (Builtin.Int.intBits i : Int) * j ≤ 2 ^ 27
theorem op_powW {X : Cx} : OpR X (binaryOp .Pow) (rI CPowW fun i j => .int (i ^ j.toNat)) := opI fun _ _ _ _ _ _ _ hc q => pow_int hc.1 hc.2 q
theorem pow60 : CPowW ((10 : Int) ^ (60 : Int).toNat) 5 := ⟨by decide, by decide +kernel⟩
theorem small_line {n : Nat} (h : n ≤ 100000) : n ≤ sizeLine := Nat.le_trans h (by decide)
theorem small_line' {n : Nat} (h : n ≤ 100000) : n < sizeLine := Nat.lt_of_le_of_lt h (by decide)
end Loc
namespace Loc
open PySem PySem.Spec PyProof.Rows L2
/-- two ways that meet in what S says of the value -/
theorem joinIf {b : Bool} {ta tb : TE} {σ : L2.St} {H : Hp} {Q : VK} (S : VK) (key : ∀ v H', S v H' → Q v H') (h1 : b = true → ∀ R : VK, (∀ v H', S v H' → R v H') → ta σ H R)
    (h2 : b = false → ∀ R : VK, (∀ v H', S v H' → R v H') → tb σ H R) : if b = true then ta σ H Q else tb σ H Q := by
  cases b
  · rw [if_neg Bool.false_ne_true]
    exact h2 rfl Q key
  · rw [if_pos rfl]
    exact h1 rfl Q key
theorem mod_pos {a m : Int} (h : 0 < m) : 0 ≤ a % m ∧ a % m < m := ⟨Int.emod_nonneg _ (by omega), Int.emod_lt_of_pos _ h⟩
theorem pow300 : ((10 : Int) ^ (60 : Int).toNat) ^ (5 : Int).toNat < 2 ^ 1000 := by decide +kernel
theorem pow300' : 0 < ((10 : Int) ^ (60 : Int).toNat) ^ (5 : Int).toNat := by decide +kernel
end Loc
namespace Loc
theorem bit_small (b : Bool) : -(2 ^ 64) < (if b = true then (1 : Int) else 0) ∧ (if b = true then (1 : Int) else 0) < 2 ^ 64 := by
  cases b <;> decide
theorem mul_bit {a m : Int} (h : 0 ≤ a ∧ a < m) (b : Bool) : 0 ≤ a * (if b = true then (1 : Int) else 0) ∧ a * (if b = true then (1 : Int) else 0) < m := by
  cases b
  · rw [if_neg Bool.false_ne_true, Int.mul_zero]
    omega
  · rw [if_pos rfl, Int.mul_one]
    exact h
end Loc
namespace Loc
theorem natAbs_lt {b : Int} {n : Nat} (h0 : 0 ≤ b) (h : b < 2 ^ n) : b.natAbs < 2 ^ n := by
  obtain ⟨m, rfl⟩ := Int.eq_ofNat_of_zero_le h0
  rw [← PySem.W.kbt_cast n] at h
  exact Int.ofNat_lt.mp h
theorem div_small {a b : Int} (h0 : 0 ≤ a) (h : 0 < b) : 0 ≤ a / b ∧ a / b ≤ a := ⟨Int.ediv_nonneg h0 (by omega), Int.ediv_le_self b h0⟩
/-- the five numbers that a draw is reckoned with -/
theorem prime_at {n : Int} (h : 0 ≤ n) : ∃ q : Int, L2.atI [L2.V.int 2147483647, .int 2147483629, .int 2147483587, .int 2147483579, .int 2147483563] (n % 5) = some (.int q) ∧ 0 < q ∧ q < 2147483648 := by
  have m := Int.emod_nonneg n (show (5 : Int) ≠ 0 by decide)
  have l := Int.emod_lt_of_pos n (show (0 : Int) < 5 by decide)
  generalize n % 5 = r at m l
  have c : r = 0 ∨ r = 1 ∨ r = 2 ∨ r = 3 ∨ r = 4 := by omega
  rcases c with rfl | rfl | rfl | rfl | rfl
  · exact ⟨2147483647, rfl, by decide, by decide⟩
  · exact ⟨2147483629, rfl, by decide, by decide⟩
  · exact ⟨2147483587, rfl, by decide, by decide⟩
  · exact ⟨2147483579, rfl, by decide, by decide⟩
  · exact ⟨2147483563, rfl, by decide, by decide⟩
/-- what stands under the third power -/
theorem base_small {mix c : Int} (h3 : 0 ≤ mix) (h4 : mix < 2305843009213693952) (h5 : 0 ≤ c) (h6 : c ≤ 1000000) : 0 ≤ mix + 99991 * c * c + 29 ∧ mix + 99991 * c * c + 29 < 2 ^ 64 := by
  have k1 : 0 ≤ c * c := Int.mul_nonneg h5 h5
  have k2 : c * c ≤ 1000000 * 1000000 := Int.mul_le_mul h6 h6 h5 (by decide)
  rw [Int.mul_assoc]
  omega
end Loc
namespace Loc
theorem small_pow {n : Nat} (h : n ≤ 1000) : (n : Int) < 2 ^ 1000 := Int.lt_of_le_of_lt (show (n : Int) ≤ 1000 by omega) (by decide +kernel)
end Loc
namespace Loc
open PySem PySem.Spec PyProof.Rows L2
theorem sameT {K : PySem.W.Frag} {H H' : Hp} {a : Addr} {xs : List V} (e : Same H H') (h : SqT K H a xs) : SqT K H' a xs := by
  rcases h with (h | ⟨o, h⟩) | h
  · exact .inl (.inl (e _ _ h))
  · exact .inl (.inr ⟨o, e _ _ h⟩)
  · exact .inr h
theorem sameN {H : Hp} {p : Addr} {o : HO} (h : H p = none) : Same H (upd H p o) := fun b x e => by rw [upd_ne (ne_of_none e h)]; exact e
/-- a new object is written again -/
theorem sameW {H H' : Hp} {p : Addr} {o : HO} (e : Same H H') (h : H p = none) : Same H (upd H' p o) := fun b x q => by rw [upd_ne (ne_of_none q h)]; exact e b x q
theorem Same.but {H H' : Hp} {p : Addr} (e : Same H H') : But p H H' := fun b o _ h => e b o h
theorem But.same {H H' : Hp} {p : Addr} (e : But p H H') (h : H p = none) : Same H H' := fun b o q => e b o (ne_of_none q h) q
/-- a new object is written again -/
theorem But.wr {p q : Addr} {H H' : Hp} {o : HO} (e : But p H H') (h : H q = none) : But p H (upd H' q o) := fun b x n r => by rw [upd_ne (ne_of_none r h)]; exact e b x n r
theorem small_take {α : Type} {l : List α} {i n : Nat} (h : l.length ≤ n) : (l.take i).length ≤ n := by
  rw [List.length_take]
  omega
theorem line5 {n : Nat} (h : n ≤ 100000) : n < sizeLine := small_line' h
end Loc
namespace Loc
open PySem PySem.Spec PyProof.Rows L2
/-- a list or a tuple -/
def SqA (K : PySem.W.Frag) (H : Hp) (a : Addr) (xs : List V) : Prop := SqL K H a xs ∨ SqT K H a xs
theorem SqA.same {K : PySem.W.Frag} {H H' : Hp} {a : Addr} {xs : List V} (h : SqA K H a xs) (e : Same H H') : SqA K H' a xs := h.imp e.seq (sameT e)
theorem SqA.ix {K : PySem.W.Frag} {H : Hp} {a : Addr} {xs : List V} {i : Int} {v : V} {Q : VK} (h : SqA K H a xs) (e : atI xs i = some v) (q : Q v H) : rIx K (.ref a) (.int i) H Q := by
  rcases h with h | h
  · exact .inl ⟨a, xs, i, v, rfl, rfl, h, e, q⟩
  · exact .inr (.inl ⟨a, xs, i, v, rfl, rfl, h, e, q⟩)
theorem half_pow (x t : Nat) : ((x / 2 ^ t : Nat) : Int) / 2 = ((x / 2 ^ (t + 1) : Nat) : Int) := by
  rw [Nat.pow_succ, ← Nat.div_div_eq_div_mul]
  omega
end Loc
namespace Loc
theorem get_of {α : Type} {l : List α} {i : Nat} (h : i < l.length) : ∃ x, l[i]? = some x := ⟨l[i], List.getElem?_eq_getElem h⟩
end Loc
namespace Loc
theorem take_more {α : Type} {l : List α} {i : Nat} {x : α} (h : l[i]? = some x) : l.take (i + 1) = l.take i ++ [x] := by
  rw [List.take_add_one, h]
  rfl
theorem int_congr {a b : Int} (h : a = b) : L2.V.int a = L2.V.int b := by rw [h]
end Loc
namespace Loc
open PySem PySem.Spec PyProof.Rows L2
/-- a value that is one of those that S tells -/
theorem anyE {te : TE} {σ : L2.St} {H : Hp} {Q : VK} (S : VK) (key : ∀ v H', S v H' → Q v H') (h : ∀ R : VK, (∀ v H', S v H' → R v H') → te σ H R) : te σ H Q := h Q key
theorem anyT {t : TT} {σ : L2.St} {H : Hp} {Q : Bool → Hp → Prop} (S : Bool → Hp → Prop) (key : ∀ b H', S b H' → Q b H') (h : ∀ R : Bool → Hp → Prop, (∀ b H', S b H' → R b H') → t σ H R) : t σ H Q := h Q key
theorem joinS {b : Bool} {t u : TS} {D : Ends} {σ : L2.St} {H : Hp} (S : L2.St → Hp → Prop) (key : ∀ σ' H', S σ' H' → D.nx σ' H')
    (h1 : b = true → ∀ N : L2.St → Hp → Prop, (∀ σ' H', S σ' H' → N σ' H') → t { D with nx := N } σ H)
    (h2 : b = false → ∀ N : L2.St → Hp → Prop, (∀ σ' H', S σ' H' → N σ' H') → u { D with nx := N } σ H) : if b = true then t D σ H else u D σ H := by
  cases b
  · rw [if_neg Bool.false_ne_true]
    exact h2 rfl D.nx key
  · rw [if_pos rfl]
    exact h1 rfl D.nx key
theorem But.free {p q : Addr} {H H' : Hp} {o : HO} (e : But p H H') (hp : H' p = some o) (h : H' q = none) : H q = none := by
  cases z : H q with
  | none => rfl
  | some x =>
    have n : q ≠ p := fun k => by rw [k, hp] at h; cases h
    rw [e q x n z] at h
    cases h
theorem Pot.ex {H : Hp} {p : Addr} {c : Nat} (h : Pot H p c) : ∃ o, H p = some o := let ⟨o, e, _⟩ := h; ⟨o, e⟩
theorem But.freeP {p q : Addr} {H H' : Hp} {c : Nat} (e : But p H H') (hp : Pot H' p c) (h : H' q = none) : H q = none := let ⟨_, k⟩ := hp.ex; e.free k h
theorem Pot.ne {H : Hp} {p q : Addr} {c : Nat} (hp : Pot H p c) (h : H q = none) : q ≠ p := fun z => by
  obtain ⟨o, e⟩ := hp.ex
  rw [z, e] at h
  cases h
/-! lists of ints as data -/
theorem canLay_ints : ∀ ns : List Int, PyData.canLayAll0 (ns.map PyData.int) = true
  | [] => rfl
  | n :: r => by
    show (PyData.canLay0 (.int n) && PyData.canLayAll0 (r.map PyData.int)) = true
    rw [canLay_ints r]
    rfl
theorem depth_ints : ∀ ns : List Int, PyData.depthAll (ns.map PyData.int) ≤ 1
  | [] => by simp [PyData.depthAll]
  | n :: r => by
    have := depth_ints r
    simp only [List.map_cons, PyData.depthAll, PyData.depth]
    omega
theorem shaped_ints (ns : List Int) : SeqAt.shaped (.list (ns.map PyData.int)) = true ∧ SeqAt.shaped (.tuple (ns.map PyData.int)) = true := by
  have d := depth_ints ns
  constructor
  · unfold SeqAt.shaped
    rw [Bool.and_eq_true]
    exact ⟨by simpa [PyData.canLay0] using canLay_ints ns, decide_eq_true (by simp only [PyData.depth]; omega)⟩
  · unfold SeqAt.shaped
    rw [Bool.and_eq_true]
    exact ⟨by simpa [PyData.canLay0] using canLay_ints ns, decide_eq_true (by simp only [PyData.depth]; omega)⟩
/-- xs == [], xs of ints -/
theorem eqv_empty (ns : List Int) : PyData.eqv (.list (ns.map PyData.int)) (.list []) = ns.isEmpty := by
  cases ns <;> simp [PyData.eqv, PyData.eqvAll]
theorem eqv_emptyT (ns : List Int) : PyData.eqv (.tuple (ns.map PyData.int)) (.tuple []) = ns.isEmpty := by
  cases ns <;> simp [PyData.eqv, PyData.eqvAll]
end Loc
namespace Loc
theorem pow_of {d : Int} {n : Nat} (h0 : 0 ≤ d) (h : d ≤ n) : ∃ m : Nat, (1 : Int) * 2 ^ d.toNat = (m : Int) ∧ 0 < m ∧ m ≤ 2 ^ n := by
  refine ⟨2 ^ d.toNat, ?_, Nat.two_pow_pos _, Nat.pow_le_pow_right (by decide) (by omega)⟩
  rw [Int.one_mul, PySem.W.kbt_cast]
end Loc
namespace Loc
open PySem PySem.Spec PyProof.Rows L2
theorem cb1_any {r : List V → Hp → VK → Prop} {te : TE} {σ : L2.St} {H : Hp} {Q : VK} (S : VK) (key : ∀ v H', S v H' → r [v] H' Q) (h : ∀ R : VK, (∀ v H', S v H' → R v H') → te σ H R) : tCB r (tCons te tNil) σ H Q := h _ key
theorem cons_any {te : TE} {tr : TA} {σ : L2.St} {H : Hp} {Q : List V → Hp → Prop} (S : VK) (key : ∀ v H', S v H' → tr σ H' fun vs H2 => Q (v :: vs) H2) (h : ∀ R : VK, (∀ v H', S v H' → R v H') → te σ H R) : tCons te tr σ H Q := h _ key
theorem if_any {T : TT} {ta tb : TE} {σ : L2.St} {H : Hp} {Q : VK} (S : Bool → Hp → Prop) (key : ∀ b H', S b H' → if b = true then ta σ H' Q else tb σ H' Q) (h : ∀ R : Bool → Hp → Prop, (∀ b H', S b H' → R b H') → T σ H R) : tIf T ta tb σ H Q := h _ key
theorem ifs_any {T : TT} {t u : TS} {D : Ends} {σ : L2.St} {H : Hp} (S : Bool → Hp → Prop) (key : ∀ b H', S b H' → if b = true then t D σ H' else u D σ H') (h : ∀ R : Bool → Hp → Prop, (∀ b H', S b H' → R b H') → T σ H R) : tIfS T t u D σ H := h _ key
end Loc
namespace Loc
open PySem PySem.Spec PyProof.Rows L2
theorem cb1_var {r : List V → Hp → VK → Prop} {i : Nat} {σ : L2.St} {H : Hp} {Q : VK} (v : V) (h : σ[i]? = some (some v)) (k : r [v] H Q) : tCB r (tCons (tVar i) tNil) σ H Q := ⟨v, h, k⟩
end Loc

set_option Elab.async false
set_option linter.all false
set_option maxRecDepth 100000
namespace Loc
open PySem PySem.Spec PyProof.Rows L2 RZ
/-! ### repr of a tuple of ints -/
theorem shown_len {n : Nat} (h : n < 10 ^ 70) : (PyData.shown (.int (n : Int))).length ≤ 70 := by
  rw [PyData.shown_int]
  refine toString_length_le (Int.natCast_nonneg _) (by decide) ?_
  have := Int.ofNat_lt.mpr h
  exact Int.lt_of_lt_of_le this (by decide +kernel)
theorem shown_sum : ∀ ns : List Nat, (∀ n ∈ ns, n < 10 ^ 70) → ((PyData.shownAll ((ns.map fun n : Nat => (n : Int)).map PyData.int)).map (·.length)).sum ≤ 70 * ns.length
  | [], _ => by simp [PyData.shownAll]
  | n :: r, h => by
    have h1 := shown_len (h n List.mem_cons_self)
    have h2 := shown_sum r fun m hm => h m (List.mem_cons_of_mem _ hm)
    simp only [List.map_cons, PyData.shownAll, List.sum_cons, List.length_cons]
    omega
theorem log_small {n : Nat} (h : n < 10 ^ 70) : ((n : Int)).natAbs.log2 < 1920 := by
  rw [Int.natAbs_natCast]
  by_cases z : n = 0
  · subst z
    decide
  · exact (Nat.log2_lt z).mpr (Nat.lt_trans h (by decide +kernel))
theorem noDict_ints : ∀ ns : List Int, PyData.hasDictAll (ns.map PyData.int) = false
  | [] => by simp [PyData.hasDictAll]
  | n :: r => by simp [PyData.hasDictAll, PyData.hasDict, noDict_ints r]
/-- what repr asks of a tuple of small numbers -/
theorem rep_ints {K : PySem.W.Frag} {H : Hp} {a : Addr} {ns : List Nat} {Q : VK} (hS : SqT K H a (ns.map fun n : Nat => V.int (n : Int))) (h : ∀ n ∈ ns, n < 10 ^ 70) (hl : ns.length ≤ 100000)
    (q : Q (.str (PyData.shown (.tuple ((ns.map fun n : Nat => (n : Int)).map PyData.int)))) H) : rRep K [.ref a] H Q := by
  have dp := depth_ints (ns.map fun n : Nat => (n : Int))
  have sm := shown_sum ns h
  have e : (ns.map fun n : Nat => V.int (n : Int)) = (ns.map fun n : Nat => (n : Int)).map V.int := by
    rw [List.map_map]
    rfl
  rw [e] at hS
  refine ⟨a, _, rfl, .tup hS (DpAll.ints _), ?_, ?_, ?_, ?_, q⟩
  · show PyData.showableAll _ = true
    refine PyData.showableAll_ints _ fun n hn => ?_
    obtain ⟨m, hm, rfl⟩ := List.mem_map.mp hn
    exact log_small (h m hm)
  · show PyData.hasDictAll _ = false
    exact noDict_ints _
  · simp only [PyData.depth]
    omega
  · show (tupleText _).length ≤ sizeLine
    have t := tupleText_len_le (PyData.shownAll ((ns.map fun n : Nat => (n : Int)).map PyData.int))
    rw [PyData.shownAll_length, List.length_map, List.length_map] at t
    rw [sizeLine_eq]
    omega
/-! ### [.. for x, y in zip(t, u)], t and u tuples -/
theorem lc_zipT {K : PySem.W.Frag} {a b : Addr} {xs ys : List V} {g : TG} {tt : TT} {te : TE} {vs : List Nat} {σ : L2.St} {H1 : Hp} {D : Addr} {Qd : Hp → Prop} (Pv : Nat → Hp → Prop)
    (h0 : Pv 0 (upd H1 D (.lst []))) (hl : ∀ i H, Pv i H → SqT K H a xs ∧ SqT K H b ys)
    (hs : ∀ i x y T H, xs[i]? = some x → ys[i]? = some y → Pv i H → H T = none → g (.ref T) (wipe σ vs) (upd H T (.tup [x, y])) fun σ2 H2 => wipe σ2 vs = wipe σ vs ∧ tt σ2 H2 fun k H3 =>
      if k = true then te σ2 H3 fun z H4 => ∃ acc, H4 D = some (.lst acc) ∧ acc.length < sizeLine ∧ Pv (i + 1) (upd H4 D (.lst (acc ++ [z]))) else Pv (i + 1) H3)
    (hd : ∀ i H, Pv i H → (xs.length ≤ i ∨ ys.length ≤ i) → Qd H) :
    ∃ W : Nat → Nat → Hp → Prop, (∃ m, W 0 m (upd H1 D (.lst []))) ∧ ∀ i m H, W i m H →
      ((ItzT K a b).stop i H ∧ Qd H) ∨ ((ItzT K a b).go i H ∧ ∃ Nx : Hp → Prop, (∀ H', Nx H' → ∃ m', m' < m ∧ W (i + 1) m' H') ∧ ∀ x H', (ItzT K a b).yld i H x H' → g x (wipe σ vs) H' fun σ2 H2 => wipe σ2 vs = wipe σ vs ∧ tt σ2 H2 fun k H3 =>
        if k = true then te σ2 H3 fun y H4 => ∃ acc, H4 D = some (.lst acc) ∧ acc.length < sizeLine ∧ Nx (upd H4 D (.lst (acc ++ [y]))) else Nx H3) := by
  refine ⟨fun i m H => m = xs.length - i ∧ Pv i H, ⟨_, rfl, h0⟩, ?_⟩
  rintro i m H ⟨rfl, p⟩
  obtain ⟨k1, k2⟩ := hl i H p
  by_cases c : i < xs.length ∧ i < ys.length
  · obtain ⟨x, gx⟩ := get_of c.1
    obtain ⟨y, gy⟩ := get_of c.2
    refine .inr ⟨⟨xs, ys, x, y, k1, k2, gx, gy⟩, Pv (i + 1), fun H' p' => ⟨xs.length - (i + 1), by omega, rfl, p'⟩, fun z H' hy => ?_⟩
    obtain ⟨T, x', y', rfl, hT, rfl, f1, f2⟩ := hy
    have ex : x' = x := Option.some.inj ((f1 _ k1).symm.trans gx)
    have ey : y' = y := Option.some.inj ((f2 _ k2).symm.trans gy)
    subst ex
    subst ey
    exact hs i _ _ T H gx gy p hT
  · have c' : xs.length ≤ i ∨ ys.length ≤ i := by omega
    exact .inl ⟨⟨xs, ys, k1, k2, c'⟩, hd i H p c'⟩
end Loc

set_option Elab.async false
set_option linter.all false
set_option maxRecDepth 100000
namespace Loc
open PySem PySem.Spec PyProof.Rows L2
/-! ### nodes -/
inductive Nd where
  | el (n : Nat)
  | run (b : Nd) (c : Nat)
  | blk (ps : List Nd)
mutual
def dat : Nd → PyData
  | .el n => .int n
  | .run b c => .tuple [.str "run", dat b, .int c]
  | .blk ps => .tuple [.str "block", .tuple (datAll ps)]
def datAll : List Nd → List PyData
  | [] => []
  | n :: r => dat n :: datAll r
end
def Nd.isRun : Nd → Bool
  | .run _ _ => true
  | _ => false
def Nd.isBlk : Nd → Bool
  | .blk _ => true
  | _ => false
def Nd.base : Nd → Nd
  | .run b _ => b
  | n => n
/-- neighbours with unlike bases -/
def Unb : List Nd → Prop
  | a :: b :: r => a.base ≠ b.base ∧ Unb (b :: r)
  | _ => True
mutual
/-- a node of this level -/
def Ok : Nd → Nat → Prop
  | .el n, l => l = 0 ∧ n ≤ 10 ^ 9
  | .run b c, l => 2 ≤ c ∧ c ≤ 10 ^ 60 ∧ b.isRun = false ∧ Ok b l
  | .blk ps, l => 1 ≤ l ∧ 2 ≤ ps.length ∧ ps.length ≤ 3 ∧ OkAll ps (l - 1) ∧ Unb ps
def OkAll : List Nd → Nat → Prop
  | [], _ => True
  | n :: r, l => Ok n l ∧ OkAll r l
end
theorem OkAll.mem : ∀ {ps : List Nd} {l : Nat}, OkAll ps l → ∀ n ∈ ps, Ok n l
  | [], _, _, n, h => nomatch h
  | a :: r, l, h, n, hn => by
    unfold OkAll at h
    rcases List.mem_cons.mp hn with rfl | hn
    · exact h.1
    · exact OkAll.mem h.2 n hn
theorem OkAll.of : ∀ {ps : List Nd} {l : Nat}, (∀ n ∈ ps, Ok n l) → OkAll ps l
  | [], _, _ => by unfold OkAll; trivial
  | a :: r, l, h => by
    unfold OkAll
    exact ⟨h a List.mem_cons_self, OkAll.of fun n hn => h n (List.mem_cons_of_mem _ hn)⟩
theorem datAll_map : ∀ ps : List Nd, datAll ps = ps.map dat
  | [] => by unfold datAll; rfl
  | n :: r => by
    unfold datAll
    rw [datAll_map r]
    rfl
theorem datAll_length (ps : List Nd) : (datAll ps).length = ps.length := by rw [datAll_map, List.length_map]
theorem unlike_sorts : (Str.ofString "run" == Str.ofString "block") = false ∧ (Str.ofString "block" == Str.ofString "run") = false := by
  constructor <;> decide +kernel
theorem eqv_rb (x y z : PyData) : PyData.eqv (.tuple [.str "run", x, y]) (.tuple [.str "block", z]) = false := by
  simp only [PyData.eqv, PyData.eqvAll, unlike_sorts.1, Bool.false_and]
theorem eqv_br (x y z : PyData) : PyData.eqv (.tuple [.str "block", z]) (.tuple [.str "run", x, y]) = false := by
  simp only [PyData.eqv, PyData.eqvAll, unlike_sorts.2, Bool.false_and]
mutual
theorem eqv_dat : ∀ a b : Nd, PyData.eqv (dat a) (dat b) = true ↔ a = b
  | .el n, .el m => by
    simp only [dat, PyData.eqv, beq_iff_eq, Nd.el.injEq]
    omega
  | .el _, .run _ _ => by simp [dat, PyData.eqv]
  | .el _, .blk _ => by simp [dat, PyData.eqv]
  | .run _ _, .el _ => by simp [dat, PyData.eqv]
  | .blk _, .el _ => by simp [dat, PyData.eqv]
  | .run a c, .run b d => by
    have ih := eqv_dat a b
    simp only [dat, PyData.eqv, PyData.eqvAll, beq_self_eq_true, Bool.true_and, Bool.and_true, Bool.and_eq_true, beq_iff_eq, Nd.run.injEq, ih]
    constructor
    · rintro ⟨h1, h2⟩
      exact ⟨h1, by omega⟩
    · rintro ⟨h1, h2⟩
      exact ⟨h1, by omega⟩
  | .run _ _, .blk _ => by simp [dat, eqv_rb]
  | .blk _, .run _ _ => by simp [dat, eqv_br]
  | .blk ps, .blk qs => by
    have ih := eqv_datAll ps qs
    simp only [dat, PyData.eqv, PyData.eqvAll, beq_self_eq_true, Bool.true_and, Bool.and_true, Nd.blk.injEq, ih]
theorem eqv_datAll : ∀ ps qs : List Nd, PyData.eqvAll (datAll ps) (datAll qs) = true ↔ ps = qs
  | [], [] => by simp [datAll, PyData.eqvAll]
  | [], _ :: _ => by simp [datAll, PyData.eqvAll]
  | _ :: _, [] => by simp [datAll, PyData.eqvAll]
  | a :: r, b :: q => by
    have h1 := eqv_dat a b
    have h2 := eqv_datAll r q
    simp only [datAll, PyData.eqvAll, Bool.and_eq_true, h1, h2, List.cons.injEq]
end
theorem eqv_no {a b : Nd} (h : a ≠ b) : PyData.eqv (dat a) (dat b) = false := by
  cases e : PyData.eqv (dat a) (dat b) with
  | false => rfl
  | true => exact absurd ((eqv_dat a b).mp e) h
theorem eqv_yes {a b : Nd} (h : a = b) : PyData.eqv (dat a) (dat b) = true := (eqv_dat a b).mpr h
theorem str_run_ok : PyData.canLay0 (.str "run") = true ∧ PyData.canLay0 (.str "block") = true := by
  constructor <;> decide +kernel
mutual
theorem canLay_dat : ∀ a : Nd, PyData.canLay0 (dat a) = true
  | .el n => by simp [dat, PyData.canLay0]
  | .run b c => by
    have h := canLay_dat b
    simp only [dat, PyData.canLay0, PyData.canLayAll0, h, str_run_ok.1, Bool.and_true]
    exact str_run_ok.1
  | .blk ps => by
    have h := canLay_datAll ps
    simp only [dat, PyData.canLay0, PyData.canLayAll0, h, Bool.and_true]
    exact str_run_ok.2
theorem canLay_datAll : ∀ ps : List Nd, PyData.canLayAll0 (datAll ps) = true
  | [] => by simp [datAll, PyData.canLayAll0]
  | a :: r => by
    have h1 := canLay_dat a
    have h2 := canLay_datAll r
    simp only [datAll, PyData.canLayAll0, h1, h2, Bool.and_true]
end
mutual
theorem depth_dat : ∀ (a : Nd) (l : Nat), Ok a l → (dat a).depth ≤ 3 * l + (if a.isRun then 1 else 0)
  | .el n, l, h => by simp [dat, PyData.depth]
  | .run b c, l, h => by
    unfold Ok at h
    have ih := depth_dat b l h.2.2.2
    rw [h.2.2.1] at ih
    simp only [dat, PyData.depth, PyData.depthAll, Nd.isRun, if_true]
    simp at ih
    omega
  | .blk ps, l, h => by
    unfold Ok at h
    have ih := depth_datAll ps (l - 1) h.2.2.2.1
    simp only [dat, PyData.depth, PyData.depthAll, Nd.isRun]
    simp
    omega
theorem depth_datAll : ∀ (ps : List Nd) (l : Nat), OkAll ps l → PyData.depthAll (datAll ps) ≤ 3 * l + 1
  | [], l, _ => by simp [datAll, PyData.depthAll]
  | a :: r, l, h => by
    unfold OkAll at h
    have h1 := depth_dat a l h.1
    have h2 := depth_datAll r l h.2
    simp only [datAll, PyData.depthAll]
    split at h1 <;> omega
end
theorem depth_le {a : Nd} {l : Nat} (h : Ok a l) : (dat a).depth ≤ 3 * l + 1 := by
  have := depth_dat a l h
  split at this <;> omega
theorem shaped_dat {a : Nd} {l : Nat} (h : Ok a l) (hl : l ≤ 20) : SeqAt.shaped (dat a) = true := by
  have d := depth_le h
  unfold SeqAt.shaped
  rw [Bool.and_eq_true]
  exact ⟨canLay_dat a, decide_eq_true (by omega)⟩
theorem shaped_all {ps : List Nd} {l : Nat} (h : OkAll ps l) (hl : l ≤ 20) : SeqAt.shaped (.list (datAll ps)) = true ∧ SeqAt.shaped (.tuple (datAll ps)) = true := by
  have d := depth_datAll ps l h
  unfold SeqAt.shaped
  simp only [Bool.and_eq_true]
  exact ⟨⟨by simpa [PyData.canLay0] using canLay_datAll ps, decide_eq_true (by simp only [PyData.depth]; omega)⟩, by simpa [PyData.canLay0] using canLay_datAll ps, decide_eq_true (by simp only [PyData.depth]; omega)⟩
/-! ### nodes that a heap bears -/
abbrev NdV (K : PySem.W.Frag) (H : Hp) (v : V) (a : Nd) : Prop := Dp K H v (dat a)
abbrev NdsV (K : PySem.W.Frag) (H : Hp) (vs : List V) (ps : List Nd) : Prop := DpAll K H vs (datAll ps)
section
variable {K : PySem.W.Frag} {H H' : Hp}
theorem NdV.el {v : V} {n : Nat} (h : NdV K H v (.el n)) : v = .int n := by
  unfold NdV dat at h
  cases h
  rfl
theorem NdV.run {v : V} {b : Nd} {c : Nat} (h : NdV K H v (.run b c)) : ∃ a v2, v = .ref a ∧ SqT K H a [.str "run", v2, .int c] ∧ NdV K H v2 b := by
  unfold NdV dat at h
  cases h with
  | tup h1 h2 =>
    cases h2 with
    | cons k1 h2 =>
      cases h2 with
      | cons k2 h2 =>
        cases h2 with
        | cons k3 h2 =>
          cases h2
          cases k1
          cases k3
          exact ⟨_, _, rfl, h1, k2⟩
theorem NdV.blk {v : V} {ps : List Nd} (h : NdV K H v (.blk ps)) : ∃ a b vs, v = .ref a ∧ SqT K H a [.str "block", .ref b] ∧ SqT K H b vs ∧ NdsV K H vs ps := by
  unfold NdV dat at h
  cases h with
  | tup h1 h2 =>
    cases h2 with
    | cons k1 h2 =>
      cases h2 with
      | cons k2 h2 =>
        cases h2
        cases k1
        cases k2 with
        | tup k3 k4 => exact ⟨_, _, _, rfl, h1, k3, k4⟩
theorem NdV.ofEl (n : Nat) : NdV K H (.int n) (.el n) := by
  unfold NdV dat
  exact .int _
theorem NdV.ofRun {a : Addr} {v2 : V} {b : Nd} {c : Nat} (h : SqT K H a [.str "run", v2, .int c]) (k : NdV K H v2 b) : NdV K H (.ref a) (.run b c) := by
  unfold NdV dat
  exact .tup h (.cons (.str _) (.cons k (.cons (.int _) .nil)))
theorem NdV.ofBlk {a b : Addr} {vs : List V} {ps : List Nd} (h : SqT K H a [.str "block", .ref b]) (k : SqT K H b vs) (q : NdsV K H vs ps) : NdV K H (.ref a) (.blk ps) := by
  unfold NdV dat
  exact .tup h (.cons (.str _) (.cons (.tup k q) .nil))
theorem NdsV.nil : NdsV K H [] [] := by
  unfold NdsV datAll
  exact .nil
theorem NdsV.cons {v : V} {vs : List V} {a : Nd} {ps : List Nd} (h : NdV K H v a) (k : NdsV K H vs ps) : NdsV K H (v :: vs) (a :: ps) := by
  unfold NdsV datAll
  exact .cons h k
theorem NdsV.inv {vs : List V} {a : Nd} {ps : List Nd} (h : NdsV K H vs (a :: ps)) : ∃ v r, vs = v :: r ∧ NdV K H v a ∧ NdsV K H r ps := by
  unfold NdsV datAll at h
  cases h with
  | cons h1 h2 => exact ⟨_, _, rfl, h1, h2⟩
theorem NdsV.inv0 {vs : List V} (h : NdsV K H vs []) : vs = [] := by
  unfold NdsV datAll at h
  cases h
  rfl
theorem NdsV.len : ∀ {ps : List Nd} {vs : List V}, NdsV K H vs ps → vs.length = ps.length
  | [], vs, h => by rw [h.inv0]; rfl
  | a :: r, vs, h => by
    obtain ⟨v, q, rfl, _, k⟩ := h.inv
    rw [List.length_cons, List.length_cons, NdsV.len k]
theorem NdsV.get : ∀ {ps : List Nd} {vs : List V} {i : Nat} {v : V}, NdsV K H vs ps → vs[i]? = some v → ∃ a, ps[i]? = some a ∧ NdV K H v a
  | [], vs, i, v, h, e => by rw [h.inv0] at e; simp at e
  | a :: r, vs, i, v, h, e => by
    obtain ⟨u, q, rfl, k1, k⟩ := h.inv
    cases i with
    | zero =>
      simp at e
      subst e
      exact ⟨a, rfl, k1⟩
    | succ i =>
      obtain ⟨b, h1, h2⟩ := NdsV.get (i := i) k (by simpa using e)
      exact ⟨b, by simpa using h1, h2⟩
theorem NdsV.at {ps : List Nd} {vs : List V} {i : Nat} {a : Nd} (h : NdsV K H vs ps) (e : ps[i]? = some a) : ∃ v, vs[i]? = some v ∧ NdV K H v a := by
  have hi := (List.getElem?_eq_some_iff.mp e).1
  obtain ⟨v, hv⟩ := get_of (l := vs) (i := i) (by rw [h.len]; exact hi)
  obtain ⟨b, h1, h2⟩ := h.get hv
  rw [e] at h1
  cases h1
  exact ⟨v, hv, h2⟩
theorem NdsV.app : ∀ {ps qs : List Nd} {vs us : List V}, NdsV K H vs ps → NdsV K H us qs → NdsV K H (vs ++ us) (ps ++ qs)
  | [], qs, vs, us, h, k => by rw [h.inv0]; exact k
  | a :: r, qs, vs, us, h, k => by
    obtain ⟨v, q, rfl, k1, k2⟩ := h.inv
    exact NdsV.cons k1 (NdsV.app k2 k)
theorem NdsV.one {v : V} {a : Nd} (h : NdV K H v a) : NdsV K H [v] [a] := NdsV.cons h NdsV.nil
theorem NdsV.last {ps : List Nd} {vs : List V} {z : Nd} (h : NdsV K H vs (ps ++ [z])) : ∃ u, atI vs (-1) = some u ∧ NdV K H u z := by
  have hl := h.len
  rw [List.length_append] at hl
  simp at hl
  rcases List.eq_nil_or_concat vs with rfl | ⟨init, u, rfl⟩
  · simp at hl
  · rw [List.concat_eq_append] at *
    refine ⟨u, atI_last _ _, ?_⟩
    have hi : init.length = ps.length := by simpa using hl
    obtain ⟨a, h1, h2⟩ := h.get (i := init.length) (v := u) (by rw [List.getElem?_append_right (Nat.le_refl _)]; simp)
    rw [hi, List.getElem?_append_right (Nat.le_refl _)] at h1
    have : a = z := by simpa using h1.symm
    rw [← this]
    exact h2
/-- node data stand while tuples stand -/
def Tups (K : PySem.W.Frag) (H H' : Hp) : Prop := ∀ a xs, SqT K H a xs → SqT K H' a xs
theorem Tups.of (e : Same H H') : Tups K H H' := fun _ _ h => sameT e h
theorem Tups.trans {H2 : Hp} (e : Tups K H H') (k : Tups K H' H2) : Tups K H H2 := fun a xs h => k a xs (e a xs h)
theorem Tups.refl : Tups K H H := fun _ _ h => h
theorem But.tups {p : Addr} {ys : List V} (e : But p H H') (h : H p = some (.lst ys)) : Tups K H H' := fun _ _ k => e.sqt h k
theorem But.tupsP {p : Addr} {c : Nat} (e : But p H H') (h : Pot H p c) : Tups K H H' := let ⟨_, k⟩ := h.ls; e.tups k
mutual
theorem NdV.up (e : Tups K H H') : ∀ {a : Nd} {v : V}, NdV K H v a → NdV K H' v a
  | .el n, v, h => by rw [h.el]; exact .ofEl n
  | .run b c, v, h => by
    obtain ⟨a, v2, rfl, h1, h2⟩ := h.run
    exact .ofRun (e _ _ h1) (NdV.up e h2)
  | .blk ps, v, h => by
    obtain ⟨a, b, vs, rfl, h1, h2, h3⟩ := h.blk
    exact .ofBlk (e _ _ h1) (e _ _ h2) (NdsV.up e h3)
theorem NdsV.up (e : Tups K H H') : ∀ {ps : List Nd} {vs : List V}, NdsV K H vs ps → NdsV K H' vs ps
  | [], vs, h => by rw [h.inv0]; exact .nil
  | a :: r, vs, h => by
    obtain ⟨v, q, rfl, k1, k2⟩ := h.inv
    exact NdsV.cons (NdV.up e k1) (NdsV.up e k2)
end
theorem SqT.ty {a : Addr} {xs : List V} (h : SqT K H a xs) : TyX K H (.ref a) (.type "tuple") := by
  rcases h with (h | ⟨o, h⟩) | ⟨o, its, n, h1, h2, _⟩
  · exact .base (.tup h)
  · exact .fTuple h
  · exact .kTuple h1 h2
end
end Loc

set_option Elab.async false
set_option linter.all false
set_option maxRecDepth 100000
namespace Loc
open PySem PySem.Spec PyProof.Rows L2
def Smalls (B : Nat) (xs : List V) : Prop := ∀ x ∈ xs, ∃ n : Nat, x = .int n ∧ n ≤ B
theorem Smalls.nil {B : Nat} : Smalls B [] := fun x h => nomatch h
theorem Smalls.cons {B n : Nat} {x : V} {xs : List V} (e : x = .int n) (h : n ≤ B) (t : Smalls B xs) : Smalls B (x :: xs) := fun y hy => by
  rcases List.mem_cons.mp hy with rfl | hy
  · exact ⟨n, e, h⟩
  · exact t y hy
theorem Smalls.at {B : Nat} {xs : List V} {j : Nat} {x : V} (s : Smalls B xs) (h : xs[j]? = some x) : ∃ n : Nat, x = .int n ∧ n ≤ B := s x (List.mem_of_getElem? h)
/-! the two nodes of a level that are at hand -/
def tw : Nat → Nd × Nd
  | 0 => (.el 5, .el 6)
  | l + 1 => (.blk [(tw l).1, (tw l).2], .blk [(tw l).2, (tw l).1])
theorem tw_ok : ∀ l : Nat, Ok (tw l).1 l ∧ Ok (tw l).2 l ∧ (tw l).1 ≠ (tw l).2 ∧ (tw l).1.isRun = false ∧ (tw l).2.isRun = false
  | 0 => by
    refine ⟨?_, ?_, ?_, rfl, rfl⟩
    · unfold tw Ok; exact ⟨rfl, by decide⟩
    · unfold tw Ok; exact ⟨rfl, by decide⟩
    · unfold tw; intro h; injection h with h; exact absurd h (by decide)
  | l + 1 => by
    obtain ⟨h1, h2, h3, h4, h5⟩ := tw_ok l
    have b1 : (tw l).1.base = (tw l).1 := by
      cases e : (tw l).1 with
      | run b c => rw [e] at h4; cases h4
      | el n => rfl
      | blk ps => rfl
    have b2 : (tw l).2.base = (tw l).2 := by
      cases e : (tw l).2 with
      | run b c => rw [e] at h5; cases h5
      | el n => rfl
      | blk ps => rfl
    refine ⟨?_, ?_, ?_, rfl, rfl⟩
    · show Ok (.blk [(tw l).1, (tw l).2]) (l + 1)
      unfold Ok
      exact ⟨by omega, Nat.le_refl 2, (show 2 ≤ 3 from by decide), OkAll.of (fun n hn => by
        rcases List.mem_cons.mp hn with rfl | hn
        · exact h1
        · rw [List.mem_singleton.mp hn]; exact h2), ⟨by rw [b1, b2]; exact h3, trivial⟩⟩
    · show Ok (.blk [(tw l).2, (tw l).1]) (l + 1)
      unfold Ok
      exact ⟨by omega, Nat.le_refl 2, (show 2 ≤ 3 from by decide), OkAll.of (fun n hn => by
        rcases List.mem_cons.mp hn with rfl | hn
        · exact h2
        · rw [List.mem_singleton.mp hn]; exact h1), ⟨by rw [b1, b2]; exact h3.symm, trivial⟩⟩
    · show Nd.blk [(tw l).1, (tw l).2] ≠ Nd.blk [(tw l).2, (tw l).1]
      intro h
      injection h with h
      injection h with h
      exact h3 h
theorem base_of_no {n : Nd} (h : n.isRun = false) : n.base = n := by
  cases n with
  | run b c => cases h
  | el n => rfl
  | blk ps => rfl
theorem Ok.base {n : Nd} {l : Nat} (h : Ok n l) : Ok n.base l ∧ n.base.isRun = false := by
  cases n with
  | run b c =>
    unfold Ok at h
    exact ⟨h.2.2.2, h.2.2.1⟩
  | el n => exact ⟨h, rfl⟩
  | blk ps => exact ⟨h, rfl⟩
theorem unb_app : ∀ {ns : List Nd} {m : Nd}, Unb ns → (∀ x, ns.getLast? = some x → x.base ≠ m.base) → Unb (ns ++ [m])
  | [], _, _, _ => trivial
  | [a], m, _, h => ⟨h a rfl, trivial⟩
  | a :: b :: r, m, u, h => ⟨u.1, unb_app (ns := b :: r) u.2 fun x e => h x (by rw [List.getLast?_cons_cons]; exact e)⟩
/-- draws for one node of a level -/
def cost : Nat → Nat
  | 0 => 8
  | l + 1 => 4 * cost l
theorem cost_pos : ∀ l : Nat, 8 ≤ cost l
  | 0 => Nat.le_refl _
  | l + 1 => by
    have := cost_pos l
    unfold cost
    omega
theorem eqv_emptyN (ns : List Nd) : PyData.eqv (.list (datAll ns)) (.list []) = ns.isEmpty := by
  cases ns <;> simp [PyData.eqv, PyData.eqvAll, datAll]
theorem shaped_nil : SeqAt.shaped (.list []) = true := (shaped_ints []).1

def spGround (K : PySem.W.Frag) : Sp := fun vs H Q _ => ∃ v n, vs = [v] ∧ NdV K H v n ∧ ∀ v', NdV K H v' n.base → Q v' H
def spLeaf (K : PySem.W.Frag) : Sp := fun vs H Q _ => ∃ p c, vs = [.ref p] ∧ Pot H p c ∧ c < 900000 ∧ ∀ v n H', But p H H' → Pot H' p (c + 6) → NdV K H' v n → Ok n 0 → Q v H'
def spTwins (K : PySem.W.Frag) (m : Nat) : Sp := fun vs H Q _ => ∃ (z : Int) (l : Nat), vs = [.int z] ∧ z = l ∧ l < m ∧
  ∀ H' a v1 v2, Same H H' → H' a = some (.tup [v1, v2]) → NdV K H' v1 (tw l).1 → NdV K H' v2 (tw l).2 → Q (.ref a) H'
def spUnlike (K : PySem.W.Frag) (m : Nat) : Sp := fun vs H Q _ => ∃ (v : V) (n : Nd) (l : Nat), vs = [v, .int l] ∧ l < m ∧ l ≤ 20 ∧ NdV K H v n ∧ Ok n l ∧
  ∀ H' v' n', Same H H' → NdV K H' v' n' → Ok n' l → n'.base ≠ n.base → Q v' H'
def spRow (K : PySem.W.Frag) (m : Nat) : Sp := fun vs H Q _ => ∃ (p : Addr) (z : Int) (l many c : Nat), vs = [.ref p, .int z, .int many] ∧ z = l ∧ l < m ∧ l ≤ 20 ∧ many ≤ 10 ∧ Pot H p c ∧ c + 20 * cost l < 900000 ∧
  ∀ H' a vs' ns, But p H H' → H a = none → H' a = some (.lst vs') → NdsV K H' vs' ns → OkAll ns l → Unb ns → ns.length = many → Pot H' p (c + many * cost l) → Q (.ref a) H'
def spBlock (K : PySem.W.Frag) (m : Nat) : Sp := fun vs H Q _ => ∃ (p : Addr) (l c : Nat), vs = [.ref p, .int l] ∧ 1 ≤ l ∧ l < m ∧ l ≤ 20 ∧ Pot H p c ∧ c + 10 * cost l < 900000 ∧
  ∀ H' v n, But p H H' → NdV K H' v n → Ok n l → Pot H' p (c + cost l) → Q v H'
end Loc

set_option Elab.async false
set_option linter.all false
set_option maxRecDepth 100000
namespace Loc
open PySem PySem.Spec PyProof.Rows L2
/-! ### repr of nodes -/
mutual
theorem noDict_dat : ∀ a : Nd, PyData.hasDict (dat a) = false
  | .el n => by simp [dat, PyData.hasDict]
  | .run b c => by simp [dat, PyData.hasDict, PyData.hasDictAll, noDict_dat b]
  | .blk ps => by simp [dat, PyData.hasDict, PyData.hasDictAll, noDict_datAll ps]
theorem noDict_datAll : ∀ ps : List Nd, PyData.hasDictAll (datAll ps) = false
  | [] => by simp [datAll, PyData.hasDictAll]
  | a :: r => by simp [datAll, PyData.hasDictAll, noDict_dat a, noDict_datAll r]
end
theorem log60 {c : Nat} (h : c ≤ 10 ^ 60) : ((c : Int)).natAbs.log2 < 1920 := log_small (Nat.lt_of_le_of_lt h (by decide +kernel))
mutual
theorem showable_dat : ∀ (a : Nd) (l : Nat), Ok a l → PyData.showable (dat a) = true
  | .el n, l, h => by
    unfold Ok at h
    have := log60 (c := n) (Nat.le_trans h.2 (by decide +kernel))
    simpa [dat, PyData.showable] using this
  | .run b c, l, h => by
    unfold Ok at h
    have h1 := log60 h.2.1
    have h2 := showable_dat b l h.2.2.2
    simp only [dat, PyData.showable, PyData.showableAll, h2, Bool.true_and, Bool.and_true]
    exact decide_eq_true h1
  | .blk ps, l, h => by
    unfold Ok at h
    have h2 := showable_datAll ps (l - 1) h.2.2.2.1
    simp only [dat, PyData.showable, PyData.showableAll, h2, Bool.true_and, Bool.and_true]
theorem showable_datAll : ∀ (ps : List Nd) (l : Nat), OkAll ps l → PyData.showableAll (datAll ps) = true
  | [], l, _ => by simp [datAll, PyData.showableAll]
  | a :: r, l, h => by
    unfold OkAll at h
    simp [datAll, PyData.showableAll, showable_dat a l h.1, showable_datAll r l h.2]
end
theorem repr_sorts : (reprText "run").length = 5 ∧ (reprText "block").length = 7 := by
  constructor <;> decide +kernel
theorem shown_nat {c k : Nat} (hk : 0 < k) (h : c < 10 ^ k) : (PyData.shown (.int (c : Int))).length ≤ k := by
  rw [PyData.shown_int]
  refine toString_length_le (Int.natCast_nonneg _) hk ?_
  have := Int.ofNat_lt.mpr h
  have e : ((10 ^ k : Nat) : Int) = (10 : Int) ^ k := by simp
  rw [← e]
  exact this
/-- signs of a node of a level -/
def wide : Nat → Nat
  | 0 => 100
  | l + 1 => 3 * wide l + 110
mutual
theorem shown_dat : ∀ (a : Nd) (l : Nat), Ok a l → (PyData.shown (dat a)).length + (if a.isRun then 0 else 80) ≤ wide l
  | .el n, l, h => by
    unfold Ok at h
    obtain ⟨rfl, hn⟩ := h
    have := shown_nat (c := n) (k := 10) (by decide) (Nat.lt_of_le_of_lt hn (by decide))
    simp only [dat, Nd.isRun, wide]
    simp
    omega
  | .run b c, l, h => by
    unfold Ok at h
    have ih := shown_dat b l h.2.2.2
    rw [h.2.2.1] at ih
    have h1 := shown_nat (c := c) (k := 61) (by decide) (Nat.lt_of_le_of_lt h.2.1 (by decide +kernel))
    have t := tupleText_len_le [PyData.shown (.str "run"), PyData.shown (dat b), PyData.shown (.int c)]
    have e : (PyData.shown (.str "run")).length = 5 := by rw [PyData.shown_str]; exact repr_sorts.1
    simp only [List.map_cons, List.map_nil, List.sum_cons, List.sum_nil, List.length_cons, List.length_nil, e] at t
    simp only [dat, Nd.isRun, PyData.shown, PyData.shownAll, if_true, Bool.false_eq_true, if_false, Nat.add_zero] at ih t h1 ⊢
    omega
  | .blk ps, l, h => by
    unfold Ok at h
    obtain ⟨hl, h2, h3, h4, _⟩ := h
    obtain ⟨j, rfl⟩ : ∃ j, l = j + 1 := ⟨l - 1, by omega⟩
    have ih := shown_datAll ps j h4
    have t := tupleText_len_le (PyData.shownAll (datAll ps))
    rw [PyData.shownAll_length, datAll_length] at t
    have t2 := tupleText_len_le [PyData.shown (.str "block"), PyData.shown (.tuple (datAll ps))]
    have e : (PyData.shown (.str "block")).length = 7 := by rw [PyData.shown_str]; exact repr_sorts.2
    simp only [List.map_cons, List.map_nil, List.sum_cons, List.sum_nil, List.length_cons, List.length_nil, e] at t2
    have m : ps.length * wide j ≤ 3 * wide j := Nat.mul_le_mul_right _ h3
    simp only [dat, Nd.isRun, PyData.shown, PyData.shownAll, wide] at t t2 ⊢
    simp
    omega
theorem shown_datAll : ∀ (ps : List Nd) (l : Nat), OkAll ps l → ((PyData.shownAll (datAll ps)).map (·.length)).sum ≤ ps.length * wide l
  | [], l, _ => by simp [datAll, PyData.shownAll]
  | a :: r, l, h => by
    unfold OkAll at h
    have h1 := shown_dat a l h.1
    have h2 := shown_datAll r l h.2
    simp only [datAll, PyData.shownAll, List.map_cons, List.sum_cons, List.length_cons]
    rw [Nat.add_mul]
    omega
end
/-- what repr asks of a tuple of nodes -/
theorem rep_nodes {K : PySem.W.Frag} {H : Hp} {a : Addr} {us : List V} {ns : List Nd} {l : Nat} {Q : VK} (hS : SqT K H a us) (hn : NdsV K H us ns) (ok : OkAll ns l) (hl : l ≤ 20) (hz : ns.length * wide l + 2 * ns.length + 3 ≤ sizeLine)
    (q : Q (.str (PyData.shown (.tuple (datAll ns)))) H) : rRep K [.ref a] H Q := by
  have d := depth_datAll ns l ok
  refine ⟨a, .tuple (datAll ns), rfl, .tup hS hn, ?_, ?_, ?_, ?_, q⟩
  · show PyData.showableAll _ = true
    exact showable_datAll ns l ok
  · show PyData.hasDictAll _ = false
    exact noDict_datAll ns
  · simp only [PyData.depth]
    omega
  · show (tupleText _).length ≤ sizeLine
    have t := tupleText_len_le (PyData.shownAll (datAll ns))
    have s := shown_datAll ns l ok
    rw [PyData.shownAll_length, datAll_length] at t
    omega
/-! ### making runs -/
noncomputable section
open Classical
def stepG (acc : List (Nd × Nat)) (n : Nd) : List (Nd × Nat) :=
  match acc.getLast? with
  | some (m, c) => if m = n then acc.dropLast ++ [(n, c + 1)] else acc ++ [(n, 1)]
  | none => acc ++ [(n, 1)]
def grp (ns : List Nd) : List (Nd × Nat) := ns.foldl stepG []
theorem grp_app (ns : List Nd) (n : Nd) : grp (ns ++ [n]) = stepG (grp ns) n := by
  unfold grp
  rw [List.foldl_append]
  rfl
theorem stepG_last (acc : List (Nd × Nat)) (n : Nd) : ∃ i c, stepG acc n = i ++ [(n, c)] := by
  unfold stepG
  split
  · split
    · exact ⟨_, _, rfl⟩
    · exact ⟨_, _, rfl⟩
  · exact ⟨_, _, rfl⟩
theorem stepG_eq {i : List (Nd × Nat)} {n : Nd} {c : Nat} : stepG (i ++ [(n, c)]) n = i ++ [(n, c + 1)] := by
  unfold stepG
  rw [List.getLast?_append]
  simp
theorem stepG_ne {acc : List (Nd × Nat)} {n : Nd} (h : ∀ m c, acc.getLast? = some (m, c) → m ≠ n) : stepG acc n = acc ++ [(n, 1)] := by
  unfold stepG
  split
  · rename_i m c e
    rw [if_neg (h m c e)]
  · rfl
/-- the last group's node is the last node -/
theorem grp_last (ns : List Nd) (n : Nd) (c : Nat) (h : (grp ns).getLast? = some (n, c)) : ns.getLast? = some n := by
  rcases List.eq_nil_or_concat ns with rfl | ⟨init, z, rfl⟩
  · unfold grp at h
    simp at h
  · rw [List.concat_eq_append] at *
    rw [grp_app] at h
    obtain ⟨i, d, e⟩ := stepG_last (grp init) z
    rw [e, List.getLast?_append] at h
    simp at h
    rw [List.getLast?_append]
    simp [h.1]
theorem grp_rep (ns : List Nd) (a : Nd) (h : ns.getLast? ≠ some a) : ∀ k : Nat, grp (ns ++ List.replicate (k + 1) a) = grp ns ++ [(a, k + 1)]
  | 0 => by
    show grp (ns ++ [a]) = _
    rw [grp_app]
    refine stepG_ne fun m c e z => h ?_
    rw [grp_last ns m c e, z]
  | k + 1 => by
    rw [List.replicate_succ', ← List.append_assoc, grp_app, grp_rep ns a h k, stepG_eq]
def mkRun (p : Nd × Nat) : Nd := if p.2 = 1 then p.1 else .run p.1 p.2
def mkRuns (ns : List Nd) : List Nd := (grp ns).map mkRun
theorem stepG_len (acc : List (Nd × Nat)) (n : Nd) : (stepG acc n).length ≤ acc.length + 1 := by
  unfold stepG
  split
  · split
    · rename_i e _
      have := List.length_pos_iff.mpr (show acc ≠ [] from fun z => by rw [z] at e; cases e)
      simp
      try omega
    · simp
  · simp
theorem grp_foot (ns : List Nd) : ∀ p ∈ grp ns, p.1 ∈ ns ∧ 1 ≤ p.2 ∧ p.2 ≤ ns.length := by
  rcases h : ns.reverse with _ | ⟨z, r⟩
  all_goals skip
  · have : ns = [] := by simpa using h
    subst this
    unfold grp
    intro p hp
    exact nomatch hp
  · have e : ns = r.reverse ++ [z] := by
      have := congrArg List.reverse h
      simpa using this
    rw [e]
    clear h e
    generalize r.reverse = xs
    clear r
    suffices hh : ∀ (k : Nat) (xs : List Nd), xs.length = k → ∀ p ∈ grp xs, p.1 ∈ xs ∧ 1 ≤ p.2 ∧ p.2 ≤ xs.length from hh _ _ rfl
    intro k
    induction k with
    | zero =>
      intro xs hx p hp
      rw [List.eq_nil_of_length_eq_zero hx] at hp
      unfold grp at hp
      exact nomatch hp
    | succ k ih =>
      intro xs hx p hp
      rcases List.eq_nil_or_concat xs with rfl | ⟨i, y, rfl⟩
      · simp at hx
      · rw [List.concat_eq_append] at *
        have hi : i.length = k := by simpa using hx
        have g := ih i hi
        rw [grp_app] at hp
        unfold stepG at hp
        split at hp
        · rename_i m c e
          have gm := g (m, c) (List.mem_of_getLast? e)
          split at hp
          · rcases List.mem_append.mp hp with hp | hp
            · have := g p ((List.dropLast_sublist _).subset hp)
              simp
              exact ⟨.inl this.1, this.2.1, by omega⟩
            · rw [List.mem_singleton.mp hp]
              simp
              simp at gm
              omega
          · rcases List.mem_append.mp hp with hp | hp
            · have := g p hp
              simp
              exact ⟨.inl this.1, this.2.1, by omega⟩
            · rw [List.mem_singleton.mp hp]
              simp
        · rcases List.mem_append.mp hp with hp | hp
          · have := g p hp
            simp
            exact ⟨.inl this.1, this.2.1, by omega⟩
          · rw [List.mem_singleton.mp hp]
            simp
theorem grp_len (ns : List Nd) : (grp ns).length ≤ ns.length := by
  suffices hh : ∀ (xs : List Nd) (acc : List (Nd × Nat)), (xs.foldl stepG acc).length ≤ acc.length + xs.length from by
    have := hh ns []
    show (ns.foldl stepG []).length ≤ _
    simpa using this
  intro xs
  induction xs with
  | nil => intro acc; simp
  | cons x r ih =>
    intro acc
    have h1 := ih (stepG acc x)
    have h2 := stepG_len acc x
    rw [List.foldl_cons, List.length_cons]
    omega
theorem mkRuns_ok {ns : List Nd} {l : Nat} (h : OkAll ns l) (nr : ∀ n ∈ ns, n.isRun = false) (hz : ns.length ≤ 10 ^ 60) : OkAll (mkRuns ns) l := OkAll.of fun n hn => by
  obtain ⟨p, hp, rfl⟩ := List.mem_map.mp hn
  obtain ⟨h1, h2, h3⟩ := grp_foot ns p hp
  unfold mkRun
  split
  · exact h.mem _ h1
  · unfold Ok
    exact ⟨by omega, Nat.le_trans h3 hz, nr _ h1, h.mem _ h1⟩
end
end Loc
namespace Loc
open PySem PySem.Spec PyProof.Rows L2
/-! pairs of a node and a count -/
def pdat (p : Nd × Nat) : PyData := .tuple [dat p.1, .int (p.2 : Int)]
abbrev PrsV (K : PySem.W.Frag) (H : Hp) (vs : List V) (ps : List (Nd × Nat)) : Prop := DpAll K H vs (ps.map pdat)
section
variable {K : PySem.W.Frag} {H H' : Hp}
theorem PrsV.one {a : Addr} {v : V} {p : Nd × Nat} (h : SqT K H a [v, .int (p.2 : Int)]) (k : NdV K H v p.1) : PrsV K H [.ref a] [p] := .cons (.tup h (.cons k (.cons (.int _) .nil))) .nil
theorem PrsV.inv {v : V} {p : Nd × Nat} (h : Dp K H v (pdat p)) : ∃ a u, v = .ref a ∧ SqT K H a [u, .int (p.2 : Int)] ∧ NdV K H u p.1 := by
  unfold pdat at h
  cases h with
  | tup h1 h2 =>
    cases h2 with
    | cons k1 h2 =>
      cases h2 with
      | cons k2 h2 =>
        cases h2
        cases k2
        exact ⟨_, _, rfl, h1, k1⟩
theorem DpAll.len : ∀ {ds : List PyData} {vs : List V}, DpAll K H vs ds → vs.length = ds.length
  | _, _, .nil => rfl
  | _, _, .cons _ t => by rw [List.length_cons, List.length_cons, DpAll.len t]
theorem DpAll.app : ∀ {ds es : List PyData} {vs us : List V}, DpAll K H vs ds → DpAll K H us es → DpAll K H (vs ++ us) (ds ++ es)
  | _, _, _, _, .nil, k => k
  | _, _, _, _, .cons h t, k => .cons h (DpAll.app t k)
theorem DpAll.split : ∀ {ds es : List PyData} {vs : List V}, DpAll K H vs (ds ++ es) → ∃ us ws, vs = us ++ ws ∧ DpAll K H us ds ∧ DpAll K H ws es
  | [], es, vs, h => ⟨[], vs, rfl, .nil, h⟩
  | d :: ds, es, _, .cons h t => by
    obtain ⟨us, ws, rfl, h1, h2⟩ := DpAll.split (ds := ds) (es := es) t
    exact ⟨_ :: us, ws, rfl, .cons h h1, h2⟩
theorem DpAll.get : ∀ {ds : List PyData} {vs : List V} {i : Nat} {v : V}, DpAll K H vs ds → vs[i]? = some v → ∃ d, ds[i]? = some d ∧ Dp K H v d
  | _, _, _, _, .nil, e => by simp at e
  | _, _, 0, _, .cons h t, e => by
    simp at e
    subst e
    exact ⟨_, rfl, h⟩
  | _, _, i + 1, _, .cons h t, e => by
    obtain ⟨d, h1, h2⟩ := DpAll.get (i := i) t (by simpa using e)
    exact ⟨d, by simpa using h1, h2⟩
theorem Pr.up (e : Tups K H H') {v : V} {p : Nd × Nat} (h : Dp K H v (pdat p)) : Dp K H' v (pdat p) := by
  obtain ⟨a, u, rfl, h1, h2⟩ := PrsV.inv h
  exact .tup (e _ _ h1) (.cons (h2.up e) (.cons (.int _) .nil))
theorem PrsV.up (e : Tups K H H') : ∀ {ps : List (Nd × Nat)} {vs : List V}, PrsV K H vs ps → PrsV K H' vs ps
  | [], _, h => by
    cases h
    exact .nil
  | p :: r, _, h => by
    cases h with
    | cons h1 h2 => exact .cons (Pr.up e h1) (PrsV.up e h2)
theorem canLay_prs (l : Nat) : ∀ ps : List (Nd × Nat), (∀ p ∈ ps, Ok p.1 l) → PyData.canLayAll0 (ps.map pdat) = true ∧ PyData.depthAll (ps.map pdat) ≤ 3 * l + 2
  | [], _ => by simp [PyData.canLayAll0, PyData.depthAll]
  | p :: r, h => by
    have h1 := canLay_dat p.1
    have h2 := depth_le (h p List.mem_cons_self)
    have h3 := canLay_prs l r fun q hq => h q (List.mem_cons_of_mem _ hq)
    constructor
    · simp only [List.map_cons, PyData.canLayAll0, pdat, PyData.canLay0, h1, Bool.true_and]
      exact h3.1
    · have := h3.2
      simp only [List.map_cons, PyData.depthAll, pdat, PyData.depth]
      omega
theorem shaped_prs {l : Nat} {ps : List (Nd × Nat)} (h : ∀ p ∈ ps, Ok p.1 l) (hl : l ≤ 20) : SeqAt.shaped (.list (ps.map pdat)) = true := by
  obtain ⟨h1, h2⟩ := canLay_prs l ps h
  unfold SeqAt.shaped
  rw [Bool.and_eq_true]
  exact ⟨by simpa [PyData.canLay0] using h1, decide_eq_true (by simp only [PyData.depth]; omega)⟩
theorem eqv_emptyP (ps : List (Nd × Nat)) : PyData.eqv (.list (ps.map pdat)) (.list []) = ps.isEmpty := by
  cases ps <;> simp [PyData.eqv, PyData.eqvAll]
theorem ixN_last {n : Nat} : ixN (n + 1) (-1) = some n := by
  unfold ixN
  rw [if_neg (by omega), if_pos (by omega)]
  congr 1
  omega
end
theorem cut_to (xs : List V) (k : Nat) : cutV xs none (some (k : Int)) = xs.take k := by
  unfold cutV
  rw [HT.sIx_none, HT.sIx_nat, List.drop_zero, Nat.sub_zero]
  rcases Nat.le_total k xs.length with h | h
  · rw [Nat.min_eq_left h]
  · rw [Nat.min_eq_right h, List.take_length, List.take_of_length_le h]
theorem rep_one {α : Type} (x : α) : ∀ k : Nat, (List.replicate k [x]).flatten = List.replicate k x
  | 0 => rfl
  | k + 1 => by rw [List.replicate_succ, List.flatten_cons, rep_one x k]; rfl
theorem NdsV.rep {K : PySem.W.Frag} {H : Hp} {v : V} {a : Nd} (h : NdV K H v a) : ∀ k : Nat, NdsV K H (List.replicate k v) (List.replicate k a)
  | 0 => .nil
  | k + 1 => by
    rw [List.replicate_succ, List.replicate_succ]
    exact .cons h (NdsV.rep h k)
theorem NdsV.take {K : PySem.W.Frag} {H : Hp} : ∀ {ps : List Nd} {vs : List V} (k : Nat), NdsV K H vs ps → NdsV K H (vs.take k) (ps.take k)
  | [], vs, k, h => by rw [h.inv0]; simp; exact .nil
  | a :: r, vs, 0, h => by simp; exact .nil
  | a :: r, vs, k + 1, h => by
    obtain ⟨v, q, rfl, k1, k2⟩ := h.inv
    rw [List.take_succ_cons, List.take_succ_cons]
    exact .cons k1 (NdsV.take k k2)
end Loc
namespace Loc
open PySem PySem.Spec PyProof.Rows L2
section
variable {K : PySem.W.Frag} {H : Hp}
theorem PrsV.app {ps qs : List (Nd × Nat)} {vs us : List V} (h : PrsV K H vs ps) (k : PrsV K H us qs) : PrsV K H (vs ++ us) (ps ++ qs) := by
  show DpAll K H _ _
  rw [List.map_append]
  exact DpAll.app h k
theorem PrsV.split {ps : List (Nd × Nat)} {p : Nd × Nat} {vs : List V} (h : PrsV K H vs (ps ++ [p])) : ∃ us a u, vs = us ++ [.ref a] ∧ PrsV K H us ps ∧ SqT K H a [u, .int (p.2 : Int)] ∧ NdV K H u p.1 := by
  have h : DpAll K H vs ((ps ++ [p]).map pdat) := h
  rw [List.map_append] at h
  obtain ⟨us, ws, rfl, h1, h2⟩ := DpAll.split h
  cases h2 with
  | cons k1 k2 =>
    cases k2
    obtain ⟨a, u, rfl, t1, t2⟩ := PrsV.inv k1
    exact ⟨us, a, u, rfl, h1, t1, t2⟩
theorem PrsV.len {ps : List (Nd × Nat)} {vs : List V} (h : PrsV K H vs ps) : vs.length = ps.length := by rw [DpAll.len h, List.length_map]
theorem PrsV.get {ps : List (Nd × Nat)} {vs : List V} {i : Nat} {v : V} (h : PrsV K H vs ps) (e : vs[i]? = some v) : ∃ p a u, ps[i]? = some p ∧ v = .ref a ∧ SqT K H a [u, .int (p.2 : Int)] ∧ NdV K H u p.1 := by
  obtain ⟨d, h1, h2⟩ := DpAll.get h e
  rw [List.getElem?_map] at h1
  obtain ⟨p, hp, rfl⟩ := Option.map_eq_some_iff.mp h1
  obtain ⟨a, u, rfl, t1, t2⟩ := PrsV.inv h2
  exact ⟨p, a, u, hp, rfl, t1, t2⟩
end
end Loc

set_option Elab.async false
set_option linter.all false
set_option maxRecDepth 100000
namespace Loc
open PySem PySem.Spec PyProof.Rows L2
/-! ### list(range(a, b, c)); for x in r, r a range that is at hand -/
section
variable {X : Cx} {tg : Expr}
def tLstRg3 (ta : TA) : TE := fun σ H Q => ta σ H fun vs H1 => ∃ (i j c : Int) (n : Nat), vs = [.int i, .int j, .int c] ∧ RgC i j c n ∧ n ≤ 2 ^ 24 ∧ ∀ q, H1 q = none → Q (.ref q) (upd H1 q (.lst ((List.range n).map fun k => V.int (i + (k : Nat) * c))))
theorem vals_rgC {a c : Int} {n : Nat} {acc : Array Value} (h : ItemsOf (fun i v => ∃ t, v = .int (a + i * c) t) acc n) : Vals ((List.range n).map fun k => V.int (a + (k : Nat) * c)) acc.toList := by
  have e : acc.toList.length = n := by rw [Array.length_toList]; exact h.1
  rw [← e]
  refine vals_of_get acc.toList (fun k => V.int (a + (k : Nat) * c)) fun j u hj => ?_
  obtain ⟨t, rfl⟩ := h.2 j u (by rw [← hj, Array.getElem?_toList])
  exact ⟨t, rfl⟩
theorem pe_listRg3 {a b c : Expr} {ta : TA} {p p2 pos pos2 : Pos} (hc : X.calm = true) (hg : Gl X "list") (hm : X.mg "list" = none) (hg2 : Gl X "range") (hm2 : X.mg "range" = none) (ha : PA X [a, b, c] ta)
    (na : starEach [(.Call (.Name "range" p2) [a, b, c] [] pos2)] X.env = (false, eval (.Call (.Name "range" p2) [a, b, c] [] pos2) X.env) :: starEach [] X.env := by rfl)
    (hs : starEach [a, b, c] X.env = (false, eval a X.env) :: starEach [b, c] X.env := by rfl) (hpl : (backTo pos2 (starEach [b, c] X.env)).any (·.1) = false := by rfl) :
    PE X (.Call (.Name "list" p) [.Call (.Name "range" p2) [a, b, c] [] pos2] [] pos) (tLstRg3 ta) := by
  refine ⟨fun pins s σ H Q I h => ?_⟩
  have inner : wpAny (model X.prog X.w) X.A (eval (.Call (.Name "range" p2) [a, b, c] [] pos2) X.env) (fun x s' => ∃ r i j k n t u v H', x = .ref r ∧ IsRange s'.heap r i j k t u v ∧ Inv X pins σ H' s' ∧ RgC i j k n ∧ n ≤ 2 ^ 24 ∧
      ∀ q, H' q = none → Q (.ref q) (upd H' q (.lst ((List.range n).map fun z => V.int (i + (z : Nat) * k))))) X.xe s := by
    refine Call_ (ld_blt I hg2 hm2 boot_range (PyProof.Rows.callWith_type1 (thn (ha.run pos2 pins s σ H _ I h) fun us s1 ⟨vs, H1, I1, r1, q1⟩ => ?_) hs hpl))
    obtain ⟨i, j, k, n, e, ⟨c0, c1, c2, c3⟩, hn, q⟩ := q1
    subst e
    cases r1 with
    | cons r rr =>
      cases rr with
      | cons r' rr =>
        cases rr with
        | cons r'' rr =>
          cases rr
          obtain ⟨t, rfl⟩ := r
          obtain ⟨t', rfl⟩ := r'
          obtain ⟨t'', rfl⟩ := r''
          refine call_range_3 c0 ?_ (.inl (PyProof.noPylong_small c1))
          exact ⟨_, i, j, k, n, _, _, _, H1, rfl, IsRange.new _ _ _ _ _ _ _, I1.kept (t' := s1.toks) fun b o e => Heap.get?_push_of_some _ e, ⟨c0, c1, c2, c3⟩, hn, q⟩
  refine Call_ (ld_blt I hg hm boot_list (PyProof.Rows.callWith_type1 (args_cons (thn inner fun x s1 ⟨r, i, j, k, n, t, u, v, H1, ex, hr, I1, ok, hn, q⟩ => args_nil ?_) na) na))
  subst ex
  obtain ⟨c0, c1, c2, c3⟩ := ok
  refine call_list_range (n := n) (I1.ok.hd hc) hr c2 c3 hn fun h' tk acc c' hk e' hi => ?_
  refine ⟨.ref s1.heap.objs.size, upd H1 s1.heap.objs.size (.lst ((List.range n).map fun z => V.int (i + (z : Nat) * k))), I1.laid hk (Nat.le_refl _) (show ObjOk X.prog X.w _ _ _ (.lst _) from ⟨?_, acc.toList, c', vals_rgC hi, ?_⟩), rfl, q _ (I1.hok.fresh (Nat.le_refl _))⟩
  · rw [List.length_map, List.length_range, sizeLine_eq]; omega
  · rw [Array.toArray_toList]; exact e'
/-- a range that is at hand -/
def iRngV (te : TE) : TI := fun σ H R => te σ H fun x H1 => ∃ r lo hi, x = .ref r ∧ H1 r = some (.rng lo hi) ∧ (-(2 ^ 62) ≤ lo ∧ lo < 2 ^ 62 ∧ -(2 ^ 62) ≤ hi ∧ hi < 2 ^ 62) ∧ R (Itr lo (hi - lo).toNat) H1
theorem pi_rngV {e : Expr} {te : TE} (he : PE X e te) : PI X tg e (iRngV te) := by
  refine ⟨fun pins s σ H R I h => ?_⟩
  refine thn (he.run pins s σ H _ I h) fun v s1 ⟨x, H1, I1, r1, q1⟩ => ?_
  obtain ⟨r, lo, hi, rfl, hr, ⟨h1, h2, h3, h4⟩, q⟩ := q1
  cases r1
  obtain ⟨t, u, v, eo⟩ := I1.hok r _ hr
  refine wpAny_pyIter_range (t := t) (u := u) (v := v) eo (small_one h1 h2 h3 h4) ?_
  refine ⟨s1.heap.objs.size, [s1.heap.objs.size], _, _, H1, rfl, I1.kept (t' := s1.toks) fun b o e => Heap.get?_push_of_some _ e, turn_range _ lo (hi - lo).toNat, ?_, fun b hb => ?_, q⟩
  · have e1 : lo + ((0 : Nat) : Int) * 1 = lo := by simp
    have e2 : (((hi - lo).toNat : Nat) : Int) - ((0 : Nat) : Int) = Builtin.Range.rangeSize lo hi 1 := by rw [rangeSize_one]; split <;> omega
    show IsRangeIter _ _ (lo + ((0 : Nat) : Int) * 1) ((((hi - lo).toNat : Nat) : Int) - ((0 : Nat) : Int)) 1
    rw [e1, e2]
    exact Heap.get?_push_size _ rfl
  · have e : b = s1.heap.objs.size := by simpa using hb
    subst e
    exact I1.fpOk (Nat.le_refl _) (I1.hok.fresh (Nat.le_refl _))
end
theorem rgC_two {b d : Nat} (hd : 2 ≤ d) (h : b + d < 2 ^ 30) : RgC (b : Int) (((b + d : Nat) : Int) - 1) 2 (d / 2) := by
  have e : Builtin.Range.rangeSize (b : Int) (((b + d : Nat) : Int) - 1) 2 = ((d / 2 : Nat) : Int) := by
    unfold Builtin.Range.rangeSize
    rw [if_pos (by decide), if_pos (by omega)]
    omega
  refine ⟨by decide, by decide, ?_, e⟩
  unfold Builtin.Range.small
  rw [e]
  simp only [Builtin.Range.rangeFitsLong, Bool.and_eq_true, Bool.or_eq_true, decide_eq_true_eq, beq_iff_eq, show (2 : Int) > 0 by decide, if_true]
  omega
end Loc

set_option Elab.async false
set_option linter.all false
set_option maxRecDepth 100000
namespace Loc
open PySem PySem.Spec PyProof.Rows L2
/-! ### l.extend(t), t a tuple -/
theorem ext_tup (l b : Addr) (xs ys : Array Value) (n n2 : Nat) (dd : Option Addr) (sl : Array (Option Value)) (h1 : ¬ (!xs.isEmpty && Builtin.List.listTooLong (xs.size + ys.size)) = true) (h2 : xs.size ≤ sizeLine) (h3 : xs.size + ys.size ≤ sizeLine + 1) :
    Meets (Builtin.«list.extend» ⟨[.ref l, .ref b], []⟩) (fun _ R s => s.heap.get? l = some { cls := .type "list", dict := none, data := .seq xs n, slots := #[] } ∧ s.heap.get? b = some { cls := .type "tuple", dict := dd, data := .seq ys n2, slots := sl } ∧
      R (.ok (.ret Value.none)) { s with heap := s.heap.update l (Obj.mapSeq fun x => x ++ ys), toks := s.toks }) := .of_wp fun prog w A R s h => by
  obtain ⟨hp, g, d, tk, os⟩ := s
  obtain ⟨hl, hb, h⟩ := h
  have f2 := sub_tuple_tuple
  have f3 := sub_list_list
  have f4 := sub_tuple_list
  have f5 := sub_list_tuple
  have z : (xs ++ ys).size ≤ sizeLine + 1 := by rw [Array.size_append]; exact h3
  wp_walk using (wpAny_updateSeq hl rfl (hz := h2) (_hz' := z)), wpAny_loadPart' hl, wpAny_loadPart' hb
  exact ⟨_, rfl, h⟩
section
variable {X : Cx}
def rExtendT (K : PySem.W.Frag) : V → List V → Hp → VK → Prop := fun x vs H Q => ∃ l b xs zs, x = .ref l ∧ vs = [.ref b] ∧ H l = some (.lst xs) ∧ SqT K H b zs ∧ xs.length + zs.length ≤ sizeLine ∧ Q .non (upd H l (.lst (xs ++ zs)))
theorem mt_extendT : MtM X "list.extend" (rExtendT X.K) := by
  intro pins s σ H x vs v us Q I rx rv h
  obtain ⟨l, b, xs, zs, rfl, rfl, hH, hB, hz, q⟩ := h
  cases rx
  obtain ⟨u, rfl, ru⟩ := rv.one
  cases ru
  obtain ⟨z, its, n, r, hl, e⟩ := I.lstM hH
  obtain ⟨its2, r2, p2, z2⟩ := I.tuple hB
  have hl2 := r2.length
  have hsz : its.toArray.size + its2.toArray.size ≤ sizeLine := by rw [List.size_toArray, List.size_toArray]; omega
  have hlong : ¬ (!its.toArray.isEmpty && Builtin.List.listTooLong (its.toArray.size + its2.toArray.size)) = true := by
    rw [notLongL hsz, Bool.and_false]
    exact Bool.false_ne_true
  obtain ⟨⟨cls, dd, data, sl⟩, ho, hc, n2, hd⟩ := id p2
  simp only at hc hd
  subst hc hd
  refine call_meets F.slot_list_extend ⟨_, e, rfl⟩ F.entry_list_extend (F.args_list_extend_2 _ _)
    (ext_tup l b its.toArray its2.toArray n n2 dd sl hlong (by rw [List.size_toArray]; omega) (by omega)) ⟨e, ho, ?_⟩
  refine ⟨.non, _, I.lset (its' := its ++ its2) hH e (by simp) (r.append r2) ?_, rfl, q⟩
  rw [List.length_append]
  omega
end
end Loc

set_option Elab.async false
set_option linter.all false
set_option maxRecDepth 100000
namespace Loc
open PySem PySem.Spec PyProof.Rows L2
/-! ### texts and sizes -/
def numT (n : Nat) : Str := Str.ofString (toString (n : Int))
mutual
def txt : Nd → Str
  | .el n => numT n
  | .run b c => txt b ++ Str.ofString "^" ++ numT c
  | .blk ps => Str.ofString "(" ++ Txt.join " " (txts ps) ++ Str.ofString ")"
def txts : List Nd → List Str
  | [] => []
  | a :: r => txt a :: txts r
end
mutual
def sz : Nd → Nat
  | .el _ => 1
  | .run b c => sz b * c
  | .blk ps => szs ps
def szs : List Nd → Nat
  | [] => 0
  | a :: r => sz a + szs r
end
mutual
def ht : Nd → Nat
  | .el _ => 0
  | .run b _ => ht b + 1
  | .blk ps => hts ps + 1
def hts : List Nd → Nat
  | [] => 0
  | a :: r => max (ht a) (hts r)
end
theorem hts_mem : ∀ {ps : List Nd} {n : Nd}, n ∈ ps → ht n ≤ hts ps
  | a :: r, n, h => by
    unfold hts
    rcases List.mem_cons.mp h with rfl | h
    · omega
    · have := hts_mem h
      omega
theorem txts_map : ∀ ps : List Nd, txts ps = ps.map txt
  | [] => by unfold txts; rfl
  | a :: r => by unfold txts; rw [txts_map r]; rfl
theorem szs_sum : ∀ ps : List Nd, ((ps.map fun n => ((sz n : Nat) : Int)).sum) = (szs ps : Nat)
  | [] => by unfold szs; rfl
  | a :: r => by
    unfold szs
    rw [List.map_cons, List.sum_cons, szs_sum r]
    omega
mutual
theorem ht_le : ∀ (a : Nd) (l : Nat), Ok a l → ht a ≤ 2 * l + (if a.isRun then 1 else 0)
  | .el n, l, h => by simp [ht]
  | .run b c, l, h => by
    unfold Ok at h
    have ih := ht_le b l h.2.2.2
    rw [h.2.2.1] at ih
    simp only [ht, Nd.isRun, if_true, Bool.false_eq_true, if_false] at ih ⊢
    omega
  | .blk ps, l, h => by
    unfold Ok at h
    have ih := hts_le ps (l - 1) h.2.2.2.1
    simp only [ht, Nd.isRun, Bool.false_eq_true, if_false]
    omega
theorem hts_le : ∀ (ps : List Nd) (l : Nat), OkAll ps l → hts ps ≤ 2 * l + 1
  | [], l, _ => by simp [hts]
  | a :: r, l, h => by
    unfold OkAll at h
    have h1 := ht_le a l h.1
    have h2 := hts_le r l h.2
    simp only [hts]
    split at h1 <;> omega
end
mutual
theorem sz_lt : ∀ (a : Nd) (l : Nat), Ok a l → sz a < 2 ^ (404 * l + (if a.isRun then 202 else 2))
  | .el n, l, h => by
    unfold sz
    exact Nat.one_lt_two_pow (by split <;> omega)
  | .run b c, l, h => by
    unfold Ok at h
    have ih := sz_lt b l h.2.2.2
    rw [h.2.2.1] at ih
    simp only [Nd.isRun, if_true, Bool.false_eq_true, if_false, sz] at ih ⊢
    have hc : c < 2 ^ 200 := Nat.lt_of_le_of_lt h.2.1 (by decide +kernel)
    have := Nat.mul_lt_mul'' ih hc
    rw [← Nat.pow_add] at this
    exact this
  | .blk ps, l, h => by
    unfold Ok at h
    have ih := szs_lt ps (l - 1) h.2.2.2.1
    simp only [Nd.isRun, Bool.false_eq_true, if_false, sz]
    have hp := Nat.two_pow_pos (404 * (l - 1) + 202)
    have m : ps.length * 2 ^ (404 * (l - 1) + 202) ≤ 3 * 2 ^ (404 * (l - 1) + 202) := Nat.mul_le_mul_right _ h.2.2.1
    have e : 2 ^ (404 * (l - 1) + 202) * 2 ^ 2 ≤ 2 ^ (404 * l + 2) := by
      rw [← Nat.pow_add]
      exact Nat.pow_le_pow_right (by decide) (by omega)
    omega
theorem szs_lt : ∀ (ps : List Nd) (l : Nat), OkAll ps l → szs ps ≤ ps.length * 2 ^ (404 * l + 202)
  | [], l, _ => by simp [szs]
  | a :: r, l, h => by
    unfold OkAll at h
    have h1 := sz_lt a l h.1
    have h2 := szs_lt r l h.2
    have h3 : 2 ^ (404 * l + (if a.isRun then 202 else 2)) ≤ 2 ^ (404 * l + 202) := Nat.pow_le_pow_right (by decide) (by split <;> omega)
    simp only [szs, List.length_cons]
    rw [Nat.add_mul]
    omega
end
theorem sz_small {a : Nd} {l : Nat} (h : Ok a l) : sz a < 2 ^ (404 * l + 202) := Nat.lt_of_lt_of_le (sz_lt a l h) (Nat.pow_le_pow_right (by decide) (by split <;> omega))
theorem numT_len {n k : Nat} (hk : 0 < k) (h : n < 10 ^ k) : (numT n).length ≤ k := by
  have := shown_nat hk h
  rw [PyData.shown_int] at this
  exact this
mutual
theorem txt_len : ∀ (a : Nd) (l : Nat), Ok a l → (txt a).length + (if a.isRun then 0 else 80) ≤ wide l
  | .el n, l, h => by
    unfold Ok at h
    obtain ⟨rfl, hn⟩ := h
    have := numT_len (n := n) (k := 10) (by decide) (Nat.lt_of_le_of_lt hn (by decide))
    simp only [txt, Nd.isRun, wide, Bool.false_eq_true, if_false]
    omega
  | .run b c, l, h => by
    unfold Ok at h
    have ih := txt_len b l h.2.2.2
    rw [h.2.2.1] at ih
    have h1 := numT_len (n := c) (k := 61) (by decide) (Nat.lt_of_le_of_lt h.2.1 (by decide +kernel))
    simp only [txt, Nd.isRun, if_true, Bool.false_eq_true, if_false, strLen_append] at ih ⊢
    have e : (Str.ofString "^").length = 1 := by decide +kernel
    omega
  | .blk ps, l, h => by
    unfold Ok at h
    obtain ⟨hl, h2, h3, h4, _⟩ := h
    obtain ⟨j, rfl⟩ : ∃ j, l = j + 1 := ⟨l - 1, by omega⟩
    have ih := txts_len ps j h4
    have m : ps.length * wide j ≤ 3 * wide j := Nat.mul_le_mul_right _ h3
    have g := size_glued " " (txts ps)
    have e1 : (Str.ofString "(").length = 1 := by decide +kernel
    have e2 : (Str.ofString ")").length = 1 := by decide +kernel
    have e3 : (Str.ofString " ").length = 1 := by decide +kernel
    have e4 : (txts ps).length = ps.length := by rw [txts_map, List.length_map]
    rw [e3, e4] at g
    simp only [txt, Nd.isRun, Bool.false_eq_true, if_false, strLen_append, wide]
    show (Str.ofString "(").length + (Builtin.Str.glued " " (txts ps)).length + (Str.ofString ")").length + 80 ≤ _
    omega
theorem txts_len : ∀ (ps : List Nd) (l : Nat), OkAll ps l → ((txts ps).map (·.length)).sum ≤ ps.length * wide l
  | [], l, _ => by simp [txts]
  | a :: r, l, h => by
    unfold OkAll at h
    have h1 := txt_len a l h.1
    have h2 := txts_len r l h.2
    simp only [txts, List.map_cons, List.sum_cons, List.length_cons]
    rw [Nat.add_mul]
    omega
end
def C8 (s : Str) : Prop := ∀ c ∈ s.cps.toList, c < 16 ^ 8
theorem C8.of (s : String) : C8 (Str.ofString s) := fun c hc => by
  rw [signs_ofString] at hc
  obtain ⟨d, _, rfl⟩ := List.mem_map.mp hc
  exact d.val.toNat_lt
theorem C8.app {a b : Str} (h : C8 a) (k : C8 b) : C8 (a ++ b) := fun c hc => by
  have e : (a ++ b).cps.toList = a.cps.toList ++ b.cps.toList := by
    show (a.cps ++ b.cps).toList = _
    simp
  rw [e] at hc
  rcases List.mem_append.mp hc with hc | hc
  · exact h c hc
  · exact k c hc
theorem C8.join {sep : Str} (hs : C8 sep) : ∀ {l : List Str}, (∀ y ∈ l, C8 y) → C8 (Str.join sep l)
  | [], _ => fun c hc => by
    have : (Str.join sep []).cps.toList = [] := rfl
    rw [this] at hc
    cases hc
  | [x], h => h x List.mem_cons_self
  | x :: y :: r, h => ((h x List.mem_cons_self).app hs).app (C8.join hs fun z hz => h z (List.mem_cons_of_mem _ hz))
mutual
theorem txt_c8 : ∀ a : Nd, C8 (txt a)
  | .el n => by unfold txt; exact .of _
  | .run b c => by unfold txt; exact ((txt_c8 b).app (.of _)).app (.of _)
  | .blk ps => by
    unfold txt
    refine ((C8.of "(").app ?_).app (.of _)
    show C8 (Builtin.Str.glued " " (txts ps))
    rw [StrLaws.glued_eq_join]
    exact C8.join (.of _) (txts_c8 ps)
theorem txts_c8 : ∀ ps : List Nd, ∀ y ∈ txts ps, C8 y
  | [], y, h => by unfold txts at h; cases h
  | a :: r, y, h => by
    unfold txts at h
    rcases List.mem_cons.mp h with rfl | h
    · exact txt_c8 a
    · exact txts_c8 r y h
end
/-! repr of a node or a number -/
def rRepA (K : PySem.W.Frag) : List V → Hp → VK → Prop := fun xs H Q => rRep K xs H Q ∨ ∃ i : Int, xs = [.int i] ∧ i.natAbs.log2 < 1920 ∧ Q (.str (Str.ofString (toString i))) H
theorem call_repA {X : Cx} {k : Nat} (hr : Room k X.A) (hg : X.A.guards = some []) : CallR X (.builtin "repr") (rRepA X.K) := by
  intro pins s σ H xs us Q I r h
  rcases h with h | ⟨i, rfl, hz, q⟩
  · exact call_rep hr hg pins s σ H xs us Q I r h
  · obtain ⟨u, rfl, t, rfl⟩ := vals1 r
    exact PySem.P.repr_of_int hz ⟨.str _, H, I.tok _, ⟨_, rfl⟩, q⟩
theorem rep_node {K : PySem.W.Frag} {H : Hp} {v : V} {n : Nd} {l : Nat} {Q : VK} (hn : NdV K H v n) (ok : Ok n l) (hl : l ≤ 20) (hz : wide l ≤ sizeLine) (q : Q (.str (PyData.shown (dat n))) H) : rRepA K [v] H Q := by
  have d := depth_le ok
  have w := shown_dat n l ok
  have sh := showable_dat n l ok
  cases n with
  | el m =>
    have ev := hn.el
    subst ev
    refine .inr ⟨m, rfl, ?_, ?_⟩
    · simpa [dat, PyData.showable] using sh
    · have e : (dat (.el m)).shown = Str.ofString (toString (m : Int)) := by unfold dat; exact PyData.shown_int _
      rw [← e]
      exact q
  | run b c =>
    obtain ⟨a, v2, rfl, _, _⟩ := hn.run
    exact .inl ⟨a, _, rfl, hn, sh, noDict_dat _, by omega, by split at w <;> omega, q⟩
  | blk ps =>
    obtain ⟨a, b, vs, rfl, _, _, _⟩ := hn.blk
    exact .inl ⟨a, _, rfl, hn, sh, noDict_dat _, by omega, by split at w <;> omega, q⟩
end Loc

set_option Elab.async false
set_option linter.all false
set_option maxRecDepth 100000
namespace Loc
open PySem PySem.Spec PyProof.Rows L2 TL
/-! ### texts as lists of signs -/
mutual
def cd : Nd → List Nat
  | .el n => numL n
  | .run b c => cd b ++ 94 :: numL c
  | .blk ps => 40 :: cds ps
def cds : List Nd → List Nat
  | [] => [41]
  | a :: r => cd a ++ cdt r
def cdt : List Nd → List Nat
  | [] => [41]
  | a :: r => 32 :: (cd a ++ cdt r)
end
theorem cd_run (b : Nd) (c : Nat) : cd (.run b c) = cd b ++ 94 :: numL c := by rw [cd]
/-- a sign of a text -/
def Sg (c : Nat) : Prop := (48 ≤ c ∧ c ≤ 57) ∨ c = 32 ∨ c = 40 ∨ c = 41 ∨ c = 94
theorem numL_sg (n : Nat) : ∀ c ∈ numL n, 48 ≤ c ∧ c ≤ 57 := fun c hc => numL_digits n c hc
mutual
theorem cd_sg : ∀ a : Nd, ∀ c ∈ cd a, Sg c
  | .el n, c, h => by
    unfold cd at h
    exact .inl (numL_sg n c h)
  | .run b k, c, h => by
    unfold cd at h
    rcases List.mem_append.mp h with h | h
    · exact cd_sg b c h
    rcases List.mem_cons.mp h with h | h
    · exact .inr (.inr (.inr (.inr h)))
    · exact .inl (numL_sg k c h)
  | .blk ps, c, h => by
    unfold cd at h
    rcases List.mem_cons.mp h with h | h
    · exact .inr (.inr (.inl h))
    · exact cds_sg ps c h
theorem cds_sg : ∀ ps : List Nd, ∀ c ∈ cds ps, Sg c
  | [], c, h => by
    unfold cds at h
    exact .inr (.inr (.inr (.inl (List.mem_singleton.mp h))))
  | a :: r, c, h => by
    unfold cds at h
    rcases List.mem_append.mp h with h | h
    · exact cd_sg a c h
    · exact cdt_sg r c h
theorem cdt_sg : ∀ ps : List Nd, ∀ c ∈ cdt ps, Sg c
  | [], c, h => by
    unfold cdt at h
    exact .inr (.inr (.inr (.inl (List.mem_singleton.mp h))))
  | a :: r, c, h => by
    unfold cdt at h
    rcases List.mem_cons.mp h with h | h
    · exact .inr (.inl h)
    rcases List.mem_append.mp h with h | h
    · exact cd_sg a c h
    · exact cdt_sg r c h
end
/-- what may stand behind a node's text; behind that of a base -/
def Dl (s : List Nat) : Prop := s = [] ∨ ∃ r, s = 32 :: r ∨ s = 41 :: r
def Dv (s : List Nat) : Prop := Dl s ∨ ∃ r, s = 94 :: r
theorem Dv.no {s : List Nat} {c : Nat} {r : List Nat} (h : Dv s) (e : s = c :: r) (d : (48 ≤ c ∧ c ≤ 57) ∨ c = 40) : False := by
  rcases h with (h | ⟨q, h | h⟩) | ⟨q, h⟩
  · rw [h] at e; cases e
  · rw [h] at e
    injection e with e _
    omega
  · rw [h] at e
    injection e with e _
    omega
  · rw [h] at e
    injection e with e _
    omega
theorem digs : ∀ (x y s t : List Nat), (∀ c ∈ x, 48 ≤ c ∧ c ≤ 57) → (∀ c ∈ y, 48 ≤ c ∧ c ≤ 57) → Dv s → Dv t → x ++ s = y ++ t → x = y ∧ s = t
  | [], [], s, t, _, _, _, _, e => ⟨rfl, e⟩
  | [], d :: y, s, t, _, hy, ds, _, e => (ds.no e (.inl (hy d List.mem_cons_self))).elim
  | d :: x, [], s, t, hx, _, _, dt, e => (dt.no e.symm (.inl (hx d List.mem_cons_self))).elim
  | c :: x, d :: y, s, t, hx, hy, ds, dt, e => by
    injection e with e1 e2
    obtain ⟨h1, h2⟩ := digs x y s t (fun z hz => hx z (List.mem_cons_of_mem _ hz)) (fun z hz => hy z (List.mem_cons_of_mem _ hz)) ds dt e2
    exact ⟨by rw [e1, h1], h2⟩
theorem Dl.no94 {r : List Nat} (h : Dl (94 :: r)) : False := by
  rcases h with h | ⟨q, h | h⟩
  · cases h
  · injection h with h _; exact absurd h (by decide)
  · injection h with h _; exact absurd h (by decide)
mutual
theorem cd_head : ∀ a : Nd, ∃ c r, cd a = c :: r ∧ ((48 ≤ c ∧ c ≤ 57) ∨ c = 40)
  | .el n => by
    unfold cd
    cases e : numL n with
    | nil => exact absurd e (numL_ne n)
    | cons c r => exact ⟨c, r, rfl, .inl (numL_sg n c (by rw [e]; exact List.mem_cons_self))⟩
  | .run b k => by
    obtain ⟨c, r, e, d⟩ := cd_head b
    unfold cd
    rw [e]
    exact ⟨c, _, rfl, d⟩
  | .blk ps => by
    unfold cd
    exact ⟨40, _, rfl, .inr rfl⟩
end
theorem cdt_dl (ps : List Nd) (s : List Nat) : Dl (cdt ps ++ s) := by
  cases ps with
  | nil => unfold cdt; exact .inr ⟨_, .inr rfl⟩
  | cons a r => unfold cdt; exact .inr ⟨_, .inl rfl⟩
def Inj (a : Nd) : Prop := (∀ (b : Nd) (l l' : Nat) (s t : List Nat), a.isRun = false → b.isRun = false → Ok a l → Ok b l' → Dv s → Dv t → cd a ++ s = cd b ++ t → a = b ∧ s = t)
def InjU (a : Nd) : Prop := (∀ (b : Nd) (l l' : Nat) (s t : List Nat), Ok a l → Ok b l' → Dl s → Dl t → cd a ++ s = cd b ++ t → a = b ∧ s = t)
theorem injU_of {a : Nd} (h : Inj a) (hr : a.isRun = false) : InjU a := fun b l l' s t oa ob ds dt e => by
  cases b with
  | run b c =>
    rw [cd_run, List.append_assoc] at e
    have ob' := ob
    unfold Ok at ob'
    obtain ⟨_, h2⟩ := h b l l' s _ hr ob'.2.2.1 oa ob'.2.2.2 (.inl ds) (.inr ⟨numL c ++ t, rfl⟩) e
    exact (Dl.no94 (h2 ▸ ds)).elim
  | el n => exact h _ l l' s t hr rfl oa ob (.inl ds) (.inl dt) e
  | blk ps => exact h _ l l' s t hr rfl oa ob (.inl ds) (.inl dt) e
theorem injU_run {a : Nd} {c : Nat} (h : Inj a) : InjU (.run a c) := fun b l l' s t oa ob ds dt e => by
  unfold Ok at oa
  cases b with
  | run b d =>
    unfold Ok at ob
    rw [cd_run, cd_run, List.append_assoc, List.append_assoc] at e
    obtain ⟨h1, h2⟩ := h b l l' _ _ oa.2.2.1 ob.2.2.1 oa.2.2.2 ob.2.2.2 (.inr ⟨_, rfl⟩) (.inr ⟨_, rfl⟩) e
    injection h2 with _ h2
    have h2 : numL c ++ s = numL d ++ t := h2
    obtain ⟨h3, h4⟩ := digs _ _ s t (numL_sg c) (numL_sg d) (.inl ds) (.inl dt) h2
    exact ⟨by rw [h1, numL_inj h3], h4⟩
  | el n =>
    rw [cd_run, List.append_assoc] at e
    obtain ⟨_, h2⟩ := h (.el n) l l' _ t oa.2.2.1 rfl oa.2.2.2 ob (.inr ⟨numL c ++ s, rfl⟩) (.inl dt) e
    exact (Dl.no94 (h2 ▸ dt)).elim
  | blk ps =>
    rw [cd_run, List.append_assoc] at e
    obtain ⟨_, h2⟩ := h (.blk ps) l l' _ t oa.2.2.1 rfl oa.2.2.2 ob (.inr ⟨numL c ++ s, rfl⟩) (.inl dt) e
    exact (Dl.no94 (h2 ▸ dt)).elim
mutual
theorem inj : ∀ a : Nd, Inj a
  | .el n => fun b l l' s t _ rb oa ob ds dt e => by
    cases b with
    | run b c => cases rb
    | el m =>
      unfold cd at e
      obtain ⟨h1, h2⟩ := digs _ _ s t (numL_sg n) (numL_sg m) ds dt e
      exact ⟨by rw [numL_inj h1], h2⟩
    | blk ps =>
      exfalso
      unfold cd at e
      cases en : numL n with
      | nil => exact numL_ne n en
      | cons c r =>
        rw [en, List.cons_append, List.cons_append] at e
        injection e with e _
        have := numL_sg n c (by rw [en]; exact List.mem_cons_self)
        omega
  | .run b c => fun _ _ _ _ _ ra => by cases ra
  | .blk ps => fun b l l' s t _ rb oa ob ds dt e => by
    cases b with
    | run b c => cases rb
    | el m =>
      exfalso
      unfold cd at e
      cases en : numL m with
      | nil => exact numL_ne m en
      | cons c r =>
        rw [en, List.cons_append, List.cons_append] at e
        injection e with e _
        have := numL_sg m c (by rw [en]; exact List.mem_cons_self)
        omega
    | blk qs =>
      unfold Ok at oa ob
      unfold cd at e
      rw [List.cons_append, List.cons_append] at e
      injection e with _ e
      match ps, qs, oa, ob, e with
      | [], _, oa, _, _ => exact absurd oa.2.1 (by simp)
      | _ :: _, [], _, ob, _ => exact absurd ob.2.1 (by simp)
      | a :: r, b :: q, oa, ob, e =>
        unfold cds at e
        have o1 := oa.2.2.2.1
        have o2 := ob.2.2.2.1
        unfold OkAll at o1 o2
        rw [List.append_assoc, List.append_assoc] at e
        obtain ⟨h1, h2⟩ := injUs a b _ _ _ _ o1.1 o2.1 (cdt_dl r s) (cdt_dl q t) e
        obtain ⟨h3, h4⟩ := injT r q _ _ s t o1.2 o2.2 h2
        exact ⟨by rw [h1, h3], h4⟩
theorem injUs : ∀ a : Nd, InjU a
  | .el n => injU_of (inj (.el n)) rfl
  | .run b c => injU_run (inj b)
  | .blk ps => injU_of (inj (.blk ps)) rfl
theorem injT : ∀ (ps qs : List Nd) (l l' : Nat) (s t : List Nat), OkAll ps l → OkAll qs l' → cdt ps ++ s = cdt qs ++ t → ps = qs ∧ s = t
  | [], [], _, _, s, t, _, _, e => by
    unfold cdt at e
    injection e with _ e
    exact ⟨rfl, e⟩
  | [], b :: q, _, _, s, t, _, _, e => by
    unfold cdt at e
    injection e with e _
    exact absurd e (by decide)
  | a :: r, [], _, _, s, t, _, _, e => by
    unfold cdt at e
    injection e with e _
    exact absurd e (by decide)
  | a :: r, b :: q, l, l', s, t, oa, ob, e => by
    unfold cdt at e
    rw [List.cons_append, List.cons_append, List.append_assoc, List.append_assoc] at e
    injection e with _ e
    unfold OkAll at oa ob
    obtain ⟨h1, h2⟩ := injUs a b l l' _ _ oa.1 ob.1 (cdt_dl r s) (cdt_dl q t) e
    obtain ⟨h3, h4⟩ := injT r q l l' s t oa.2 ob.2 h2
    exact ⟨by rw [h1, h3], h4⟩
end
theorem cd_inj {a b : Nd} {l l' : Nat} (oa : Ok a l) (ob : Ok b l') (e : cd a = cd b) : a = b :=
  (injUs a b l l' [] [] oa ob (.inl rfl) (.inl rfl) (by rw [e])).1
end Loc

/-! the lowest digit in which two naturals differ -/
namespace M07
theorem or_two (a b : Nat) : (a ||| b) = 2 * ((a / 2) ||| (b / 2)) + (if a % 2 = 0 ∧ b % 2 = 0 then 0 else 1) := by
  have h1 : (a ||| b) / 2 = (a / 2) ||| (b / 2) := Nat.or_div_two
  have h2 : (a ||| b) % 2 = if a % 2 = 0 ∧ b % 2 = 0 then 0 else 1 := by
    have h3 := @Nat.or_mod_two_eq_one a b
    split <;> omega
  rw [← h1, ← h2]
  omega
theorem and_two (a b : Nat) : (a &&& b) = 2 * ((a / 2) &&& (b / 2)) + (if a % 2 = 1 ∧ b % 2 = 1 then 1 else 0) := by
  have h1 : (a &&& b) / 2 = (a / 2) &&& (b / 2) := Nat.and_div_two
  have h2 : (a &&& b) % 2 = if a % 2 = 1 ∧ b % 2 = 1 then 1 else 0 := by
    have h3 := @Nat.and_mod_two_eq_one a b
    split <;> omega
  rw [← h1, ← h2]
  omega
/-- the digits of one and not of the other -/
def dif (a b : Nat) : Nat := (a ||| b) - (a &&& b)
theorem and_le_or : ∀ (n a b : Nat), a + b ≤ n → (a &&& b) ≤ (a ||| b)
  | 0, a, b, h => by
    have e1 : a = 0 := by omega
    have e2 : b = 0 := by omega
    subst e1; subst e2; decide
  | n + 1, a, b, h => by
    by_cases z : a + b = 0
    · have e1 : a = 0 := by omega
      have e2 : b = 0 := by omega
      subst e1; subst e2; decide
    · have ih := and_le_or n (a / 2) (b / 2) (by omega)
      rw [or_two a b, and_two a b]
      split <;> split <;> omega
theorem dif_two (a b : Nat) : dif a b = 2 * dif (a / 2) (b / 2) + (if a % 2 = b % 2 then 0 else 1) := by
  unfold dif
  have k := and_le_or _ (a / 2) (b / 2) (Nat.le_refl _)
  rw [or_two a b, and_two a b]
  split <;> split <;> split <;> omega
/-- the lowest digit in which they differ, looked for within the fuel -/
def low : Nat → Nat → Nat → Nat
  | 0, _, _ => 0
  | n + 1, a, b => if a % 2 = b % 2 then low n (a / 2) (b / 2) + 1 else 0
theorem low_spec : ∀ (n a b : Nat), a + b < n → a ≠ b →
    (∃ q, dif a b = 2 ^ low n a b * (2 * q + 1)) ∧ (a / 2 ^ low n a b) % 2 ≠ (b / 2 ^ low n a b) % 2 ∧ ∀ i, i < low n a b → (a / 2 ^ i) % 2 = (b / 2 ^ i) % 2
  | 0, a, b, h, _ => by omega
  | n + 1, a, b, h, hne => by
    unfold low
    have hd := dif_two a b
    by_cases e : a % 2 = b % 2
    · rw [if_pos e]
      rw [if_pos e] at hd
      obtain ⟨⟨q, h1⟩, h2, h3⟩ := low_spec n (a / 2) (b / 2) (by omega) (by omega)
      refine ⟨⟨q, ?_⟩, ?_, fun i hi => ?_⟩
      · rw [hd, h1, Nat.pow_succ]
        simp [Nat.mul_assoc, Nat.mul_comm, Nat.mul_left_comm]
      · rw [Nat.pow_succ, Nat.mul_comm, ← Nat.div_div_eq_div_mul, ← Nat.div_div_eq_div_mul]
        exact h2
      · cases i with
        | zero => simpa using e
        | succ i =>
          rw [Nat.pow_succ, Nat.mul_comm, ← Nat.div_div_eq_div_mul, ← Nat.div_div_eq_div_mul]
          exact h3 i (by omega)
    · rw [if_neg e]
      rw [if_neg e] at hd
      refine ⟨⟨dif (a / 2) (b / 2), ?_⟩, ?_, fun i hi => ?_⟩
      · rw [hd]; simp
      · simpa using e
      · omega
/-- u & (u - 1), u = 2 ^ t * odd -/
theorem and_pred : ∀ (t q : Nat), (2 ^ t * (2 * q + 1)) &&& (2 ^ t * (2 * q + 1) - 1) = 2 ^ t * (2 * q)
  | 0, q => by
    simp only [Nat.pow_zero, Nat.one_mul, Nat.add_sub_cancel]
    rw [and_two]
    rw [show (2 * q + 1) / 2 = q by omega, show 2 * q / 2 = q by omega, Nat.and_self]
    rw [if_neg (by omega)]
    omega
  | t + 1, q => by
    have ih := and_pred t q
    have hp : 0 < 2 ^ t * (2 * q + 1) := Nat.mul_pos (Nat.two_pow_pos t) (by omega)
    rw [show 2 ^ (t + 1) * (2 * q + 1) = 2 * (2 ^ t * (2 * q + 1)) by rw [Nat.pow_succ]; simp [Nat.mul_assoc, Nat.mul_comm, Nat.mul_left_comm]]
    rw [show 2 ^ (t + 1) * (2 * q) = 2 * (2 ^ t * (2 * q)) by rw [Nat.pow_succ]; simp [Nat.mul_assoc, Nat.mul_comm, Nat.mul_left_comm]]
    generalize 2 ^ t * (2 * q + 1) = u at ih hp ⊢
    rw [and_two, if_neg (by omega)]
    rw [show 2 * u / 2 = u by omega, show (2 * u - 1) / 2 = u - 1 by omega, ih]
    omega
/-- the mark of a later place -/
def mk (a b : Nat) : Nat := 2 * low (a + b + 1) a b + (b / 2 ^ low (a + b + 1) a b) % 2
/-- a later round -/
def marks : Nat → List Nat → List Nat
  | _, [] => []
  | a, b :: r => mk a b :: marks b r
def round : List Nat → List Nat
  | [] => []
  | a :: r => a % 2 :: marks a r
theorem marks_length : ∀ (a : Nat) (l : List Nat), (marks a l).length = l.length
  | _, [] => rfl
  | a, b :: r => by show (marks b r).length + 1 = r.length + 1; rw [marks_length b r]
theorem round_length (l : List Nat) : (round l).length = l.length := by
  cases l with
  | nil => rfl
  | cons a r => show (marks a r).length + 1 = r.length + 1; rw [marks_length]
theorem marks_get : ∀ (a : Nat) (l : List Nat) (i x y : Nat), (a :: l)[i]? = some x → (a :: l)[i + 1]? = some y → (marks a l)[i]? = some (mk x y)
  | a, [], i, x, y, _, h => by simp at h
  | a, b :: r, 0, x, y, h1, h2 => by
    simp at h1 h2
    subst h1; subst h2; rfl
  | a, b :: r, i + 1, x, y, h1, h2 => by
    show (marks b r)[i]? = _
    exact marks_get b r i x y h1 h2
theorem round_get (l : List Nat) (i x y : Nat) (h1 : l[i]? = some x) (h2 : l[i + 1]? = some y) : (round l)[i + 1]? = some (mk x y) := by
  cases l with
  | nil => simp at h1
  | cons a r => exact marks_get a r i x y h1 h2
/-- neighbours unlike -/
def Unl : List Nat → Prop
  | a :: b :: r => a ≠ b ∧ Unl (b :: r)
  | _ => True
theorem Unl.get : ∀ {l : List Nat} {i x y : Nat}, Unl l → l[i]? = some x → l[i + 1]? = some y → x ≠ y
  | [], _, _, _, _, h, _ => by simp at h
  | [_], i, _, _, _, _, h => by simp at h
  | a :: b :: r, 0, x, y, u, h1, h2 => by
    simp at h1 h2
    subst h1; subst h2; exact u.1
  | a :: b :: r, i + 1, x, y, u, h1, h2 => Unl.get (l := b :: r) (i := i) u.2 (by simpa using h1) (by simpa using h2)
theorem mk_low {a b : Nat} (h : a ≠ b) : mk a b / 2 = low (a + b + 1) a b ∧ mk a b % 2 = (b / 2 ^ low (a + b + 1) a b) % 2 := by
  unfold mk
  omega
theorem mk_ne {a b c : Nat} (h1 : a ≠ b) (h2 : b ≠ c) : mk a b ≠ mk b c := fun e => by
  obtain ⟨p1, p2⟩ := mk_low h1
  obtain ⟨q1, q2⟩ := mk_low h2
  rw [e] at p1 p2
  have el : low (a + b + 1) a b = low (b + c + 1) b c := p1.symm.trans q1
  obtain ⟨_, k, _⟩ := low_spec (b + c + 1) b c (by omega) h2
  rw [← el] at k q2
  exact k (p2.symm.trans q2)
theorem mk_ne0 {a b : Nat} (h : a ≠ b) : a % 2 ≠ mk a b := fun e => by
  obtain ⟨p1, p2⟩ := mk_low h
  obtain ⟨_, k, _⟩ := low_spec (a + b + 1) a b (by omega) h
  have e0 : low (a + b + 1) a b = 0 := by omega
  rw [e0] at k p2
  simp at k p2
  omega
theorem marks_unl : ∀ (a : Nat) (l : List Nat), Unl (a :: l) → Unl (marks a l)
  | _, [], _ => trivial
  | _, [_], _ => trivial
  | a, b :: c :: r, u => ⟨mk_ne u.1 u.2.1, marks_unl b (c :: r) u.2⟩
theorem round_unl (l : List Nat) (u : Unl l) : Unl (round l) := by
  match l, u with
  | [], _ => trivial
  | [_], _ => trivial
  | a :: b :: r, u => exact ⟨mk_ne0 u.1, marks_unl a (b :: r) u⟩
end M07

set_option Elab.async false
set_option linter.all false
namespace M07
open PySem PyProof.Rows
theorem xor_nn (x y : Nat) : Builtin.bitXor (x : Int) (y : Int) = (dif x y : Nat) := by
  show Builtin.bitOr (x : Int) (y : Int) - Builtin.bitAnd (x : Int) (y : Int) = _
  have k := and_le_or _ x y (Nat.le_refl _)
  rw [L2.bitOr_nn (Int.natCast_nonneg _) (Int.natCast_nonneg _), bitAnd_pp (Int.natCast_nonneg _) (Int.natCast_nonneg _)]
  simp only [Int.toNat_natCast]
  unfold dif
  omega
theorem and_neg (u : Nat) (h : 0 < u) : Builtin.bitAnd (u : Int) (-(u : Int)) = (u : Int) - ((u &&& (u - 1) : Nat) : Int) := by
  have h1 : ¬ 0 ≤ -(u : Int) := by omega
  have h2 : (0 : Int) ≤ u := by omega
  have e : (Builtin.bitNot (-(u : Int))).toNat = u - 1 := by
    show (- -(u : Int) - 1).toNat = u - 1
    omega
  unfold Builtin.bitAnd
  rw [decide_eq_true h2, decide_eq_false h1]
  show (u : Int) - (((u : Int).toNat &&& (Builtin.bitNot (-(u : Int))).toNat : Nat) : Int) = _
  rw [e, Int.toNat_natCast]
theorem low_word {x y : Nat} (h : x ≠ y) : ((Builtin.Int.intBits (Builtin.bitAnd (Builtin.bitXor (x : Int) (y : Int)) (-(Builtin.bitXor (x : Int) (y : Int)))) : Nat) : Int) - 1 = (low (x + y + 1) x y : Nat) := by
  obtain ⟨⟨q, e⟩, _, _⟩ := low_spec (x + y + 1) x y (by omega) h
  generalize low (x + y + 1) x y = t at e ⊢
  have hp : 0 < 2 ^ t := Nat.two_pow_pos t
  have hu : 0 < dif x y := by
    rw [e]
    exact Nat.mul_pos hp (by omega)
  rw [xor_nn, and_neg _ hu, e, and_pred t q]
  have e2 : ((2 ^ t * (2 * q + 1) : Nat) : Int) - ((2 ^ t * (2 * q) : Nat) : Int) = ((2 ^ t : Nat) : Int) := by
    rw [show 2 ^ t * (2 * q + 1) = 2 ^ t * (2 * q) + 2 ^ t by rw [Nat.mul_add, Nat.mul_one]]
    omega
  rw [e2]
  unfold Builtin.Int.intBits
  have hz : ¬ (((2 ^ t : Nat) : Int) == 0) = true := by
    rw [beq_iff_eq]
    omega
  rw [if_neg hz, Int.natAbs_natCast, Nat.log2_two_pow]
  omega
theorem high_word (y t : Nat) : Builtin.bitAnd ((y : Int) / 2 ^ t) 1 = ((y / 2 ^ t % 2 : Nat) : Int) := by
  rw [PyProof.Rows.bitAnd_m1, ← PySem.W.kbt_cast t]
  omega
theorem mark_word {x y : Nat} (h : x ≠ y) : 2 * (((Builtin.Int.intBits (Builtin.bitAnd (Builtin.bitXor (x : Int) (y : Int)) (-(Builtin.bitXor (x : Int) (y : Int)))) : Nat) : Int) - 1) +
    Builtin.bitAnd ((y : Int) / 2 ^ (((Builtin.Int.intBits (Builtin.bitAnd (Builtin.bitXor (x : Int) (y : Int)) (-(Builtin.bitXor (x : Int) (y : Int)))) : Nat) : Int) - 1).toNat) 1 = (mk x y : Nat) := by
  rw [low_word h, Int.toNat_natCast, high_word]
  unfold mk
  omega
end M07

set_option Elab.async false
set_option linter.all false
set_option maxRecDepth 100000
namespace Loc
open PySem PySem.Spec PyProof.Rows L2 TL
/-! ### first marks -/
def cp : List Nat → List Nat → Nat
  | a :: r, b :: q => if a = b then cp r q + 1 else 0
  | _, _ => 0
theorem cp_same : ∀ (a b : List Nat) (i : Nat), i < cp a b → ∃ x, a[i]? = some x ∧ b[i]? = some x
  | [], _, i, h => by unfold cp at h; exact absurd h (Nat.not_lt_zero _)
  | _ :: _, [], i, h => by unfold cp at h; exact absurd h (Nat.not_lt_zero _)
  | a :: r, b :: q, i, h => by
    unfold cp at h
    split at h
    · rename_i e
      cases i with
      | zero => exact ⟨a, rfl, by rw [e]; rfl⟩
      | succ i => exact cp_same r q i (by omega)
    · exact absurd h (Nat.not_lt_zero _)
theorem cp_le : ∀ (a b : List Nat), cp a b ≤ a.length ∧ cp a b ≤ b.length
  | [], _ => by unfold cp; exact ⟨Nat.zero_le _, Nat.zero_le _⟩
  | _ :: _, [] => by unfold cp; exact ⟨Nat.zero_le _, Nat.zero_le _⟩
  | a :: r, b :: q => by
    have := cp_le r q
    unfold cp
    simp only [List.length_cons]
    split <;> omega
/-- there they differ, or one has ended -/
theorem cp_end : ∀ (a b : List Nat), a ≠ b → a[cp a b]? ≠ b[cp a b]?
  | [], [], h => absurd rfl h
  | [], b :: q, _ => by unfold cp; simp
  | a :: r, [], _ => by unfold cp; simp
  | a :: r, b :: q, h => by
    unfold cp
    split
    · rename_i e
      exact cp_end r q fun z => h (by rw [e, z])
    · rename_i e
      simpa using e
def code (c : Nat) : Nat := if 48 ≤ c ∧ c ≤ 57 then c - 48 else if c = 32 then 10 else if c = 40 then 11 else if c = 41 then 12 else if c = 94 then 13 else 14
theorem code_lt {c : Nat} (h : Sg c) : code c < 14 := by
  unfold code
  unfold Sg at h
  split
  · omega
  split
  · omega
  split
  · omega
  split
  · omega
  split
  · omega
  · omega
theorem code_inj {c d : Nat} (h : Sg c) (k : Sg d) (e : code c = code d) : c = d := by
  unfold code at e
  unfold Sg at h k
  rcases h with h | h | h | h | h <;> rcases k with k | k | k | k | k <;> simp_all <;> omega
def codeAt (t : List Nat) (i : Nat) : Nat := match t[i]? with
  | some c => code c
  | none => 14
theorem codeAt_some {t : List Nat} {i c : Nat} (h : t[i]? = some c) : codeAt t i = code c := by unfold codeAt; rw [h]
theorem codeAt_none {t : List Nat} {i : Nat} (h : t[i]? = none) : codeAt t i = 14 := by unfold codeAt; rw [h]
theorem codeAt_le {t : List Nat} (h : ∀ c ∈ t, Sg c) (i : Nat) : codeAt t i ≤ 14 := by
  cases e : t[i]? with
  | none => rw [codeAt_none e]; exact Nat.le_refl _
  | some c => rw [codeAt_some e]; exact Nat.le_of_lt (code_lt (h c (List.mem_of_getElem? e)))
theorem codeAt_ne {a b : List Nat} (ha : ∀ c ∈ a, Sg c) (hb : ∀ c ∈ b, Sg c) {i : Nat} (h : a[i]? ≠ b[i]?) : codeAt a i ≠ codeAt b i := by
  cases e : a[i]? with
  | none =>
    cases k : b[i]? with
    | none => rw [e, k] at h; exact absurd rfl h
    | some d =>
      rw [codeAt_none e, codeAt_some k]
      have := code_lt (hb d (List.mem_of_getElem? k))
      omega
  | some c =>
    have h1 := code_lt (ha c (List.mem_of_getElem? e))
    cases k : b[i]? with
    | none =>
      rw [codeAt_none k, codeAt_some e]
      omega
    | some d =>
      rw [codeAt_some e, codeAt_some k]
      intro z
      have := code_inj (ha c (List.mem_of_getElem? e)) (hb d (List.mem_of_getElem? k)) z
      rw [e, k, this] at h
      exact h rfl
def fmk (a b : List Nat) : Nat := 16 * cp a b + codeAt b (cp a b)
def fmt : List Nat → List (List Nat) → List Nat
  | _, [] => []
  | a, b :: r => fmk a b :: fmt b r
def fms : List (List Nat) → List Nat
  | [] => []
  | a :: r => codeAt a 0 :: fmt a r
theorem fmt_length : ∀ (a : List Nat) (l : List (List Nat)), (fmt a l).length = l.length
  | _, [] => rfl
  | a, b :: r => by show (fmt b r).length + 1 = r.length + 1; rw [fmt_length b r]
theorem fms_length (l : List (List Nat)) : (fms l).length = l.length := by
  cases l with
  | nil => rfl
  | cons a r => show (fmt a r).length + 1 = r.length + 1; rw [fmt_length]
theorem fmt_get : ∀ (a : List Nat) (l : List (List Nat)) (i : Nat) (x y : List Nat), (a :: l)[i]? = some x → (a :: l)[i + 1]? = some y → (fmt a l)[i]? = some (fmk x y)
  | a, [], i, x, y, _, h => by simp at h
  | a, b :: r, 0, x, y, h1, h2 => by
    simp at h1 h2
    subst h1; subst h2; rfl
  | a, b :: r, i + 1, x, y, h1, h2 => by
    show (fmt b r)[i]? = _
    exact fmt_get b r i x y h1 h2
theorem fms_get (l : List (List Nat)) (i : Nat) (x y : List Nat) (h1 : l[i]? = some x) (h2 : l[i + 1]? = some y) : (fms l)[i + 1]? = some (fmk x y) := by
  cases l with
  | nil => simp at h1
  | cons a r => exact fmt_get a r i x y h1 h2
/-- neighbours unlike -/
def UnlT : List (List Nat) → Prop
  | a :: b :: r => a ≠ b ∧ UnlT (b :: r)
  | _ => True
theorem fmk_ne {a b c : List Nat} (ha : ∀ x ∈ a, Sg x) (hb : ∀ x ∈ b, Sg x) (hc : ∀ x ∈ c, Sg x) (h1 : a ≠ b) (h2 : b ≠ c) : fmk a b ≠ fmk b c := fun e => by
  have l1 := codeAt_le hb (cp a b)
  have l2 := codeAt_le hc (cp b c)
  unfold fmk at e
  have ei : cp a b = cp b c := by omega
  have ec : codeAt b (cp a b) = codeAt c (cp b c) := by omega
  rw [ei] at ec
  exact codeAt_ne hb hc (cp_end b c h2) ec
theorem fmk_ne0 {a b : List Nat} (ha : ∀ x ∈ a, Sg x) (hb : ∀ x ∈ b, Sg x) (h : a ≠ b) : codeAt a 0 ≠ fmk a b := fun e => by
  have l1 := codeAt_le ha 0
  have l2 := codeAt_le hb (cp a b)
  unfold fmk at e
  have e0 : cp a b = 0 := by omega
  have k := cp_end a b h
  rw [e0] at k e
  exact codeAt_ne ha hb k (by omega)
theorem fmt_unl : ∀ (a : List Nat) (l : List (List Nat)), (∀ t ∈ a :: l, ∀ x ∈ t, Sg x) → UnlT (a :: l) → M07.Unl (fmt a l)
  | _, [], _, _ => trivial
  | _, [_], _, _ => trivial
  | a, b :: c :: r, hs, u => ⟨fmk_ne (hs a (by simp)) (hs b (by simp)) (hs c (by simp)) u.1 u.2.1, fmt_unl b (c :: r) (fun t ht => hs t (List.mem_cons_of_mem _ ht)) u.2⟩
theorem fms_unl (l : List (List Nat)) (hs : ∀ t ∈ l, ∀ x ∈ t, Sg x) (u : UnlT l) : M07.Unl (fms l) := by
  match l, hs, u with
  | [], _, _ => trivial
  | [_], _, _ => trivial
  | a :: b :: r, hs, u => exact ⟨fmk_ne0 (hs a (by simp)) (hs b (by simp)) u.1, fmt_unl a (b :: r) hs u⟩
theorem UnlT.get : ∀ {l : List (List Nat)} {i : Nat} {x y : List Nat}, UnlT l → l[i]? = some x → l[i + 1]? = some y → x ≠ y
  | [], _, _, _, _, h, _ => by simp at h
  | [_], i, _, _, _, _, h => by simp at h
  | a :: b :: r, 0, x, y, u, h1, h2 => by
    simp at h1 h2
    subst h1; subst h2; exact u.1
  | a :: b :: r, i + 1, x, y, u, h1, h2 => UnlT.get (l := b :: r) (i := i) u.2 (by simpa using h1) (by simpa using h2)
/-- unlike bases, unlike texts -/
theorem unlT_of {l : Nat} : ∀ {ns : List Nd}, OkAll ns l → Unb ns → UnlT (ns.map cd)
  | [], _, _ => trivial
  | [_], _, _ => trivial
  | a :: b :: r, ok, u => by
    unfold OkAll at ok
    have ok2 := ok.2
    unfold OkAll at ok2
    exact ⟨fun e => u.1 (by rw [cd_inj ok.1 ok2.1 e]), unlT_of (ns := b :: r) ok.2 u.2⟩
theorem cds_sgs (ns : List Nd) : ∀ t ∈ ns.map cd, ∀ x ∈ t, Sg x := fun t ht => by
  obtain ⟨n, _, rfl⟩ := List.mem_map.mp ht
  exact cd_sg n
mutual
theorem tl_txt : ∀ a : Nd, tl (txt a) = cd a
  | .el n => by
    unfold txt cd
    exact tl_num n
  | .run b c => by
    rw [show txt (.run b c) = txt b ++ Str.ofString "^" ++ numT c by rw [txt], cd_run, tl_append, tl_append, tl_txt b, List.append_assoc]
    have e1 : tl (Str.ofString "^") = [94] := by decide +kernel
    have e2 : tl (numT c) = numL c := tl_num c
    rw [e1, e2]
    rfl
  | .blk ps => by
    rw [show txt (.blk ps) = Str.ofString "(" ++ Txt.join " " (txts ps) ++ Str.ofString ")" by rw [txt], show cd (.blk ps) = 40 :: cds ps by rw [cd], tl_append, tl_append, join_eq, tl_join]
    have e1 : tl (Str.ofString "(") = [40] := by decide +kernel
    have e2 : tl (Str.ofString ")") = [41] := by decide +kernel
    have e3 : tl (Str.ofString " ") = [32] := by decide +kernel
    rw [e1, e2, e3, List.append_assoc]
    show 40 :: (joinL [32] ((txts ps).map tl) ++ [41]) = _
    rw [tl_txts ps]
theorem tl_txts : ∀ ps : List Nd, joinL [32] ((txts ps).map tl) ++ [41] = cds ps
  | [] => by
    rw [show txts [] = [] by rw [txts], show cds [] = [41] by rw [cds]]
    rfl
  | [a] => by
    rw [show txts [a] = [txt a] by rw [txts, txts], show cds [a] = cd a ++ cdt [] by rw [cds], show cdt [] = [41] by rw [cdt], ← tl_txt a]
    rfl
  | a :: b :: r => by
    rw [show txts (a :: b :: r) = txt a :: txts (b :: r) by rw [txts], show cds (a :: b :: r) = cd a ++ cdt (b :: r) by rw [cds], show cdt (b :: r) = 32 :: (cd b ++ cdt r) by rw [cdt], ← show cds (b :: r) = cd b ++ cdt r by rw [cds], ← tl_txts (b :: r), ← tl_txt a]
    rw [show txts (b :: r) = txt b :: txts r by rw [txts]]
    show tl (txt a) ++ ([32] ++ joinL [32] ((txt b :: txts r).map tl)) ++ [41] = _
    simp
end
theorem cd_len {a : Nd} : (cd a).length = (txt a).length := by rw [← tl_txt, len_tl]
/-- the sign's place in the program's list of signs -/
theorem sign_at {c : Nat} (h : Sg c) : ∃ rest, Builtin.Str.occurrences "0123456789 ()^" ⟨#[c]⟩ 0 (Str.ofString "0123456789 ()^").length 1 = code c :: rest := by
  unfold Sg at h
  have : c = 48 ∨ c = 49 ∨ c = 50 ∨ c = 51 ∨ c = 52 ∨ c = 53 ∨ c = 54 ∨ c = 55 ∨ c = 56 ∨ c = 57 ∨ c = 32 ∨ c = 40 ∨ c = 41 ∨ c = 94 := by omega
  rcases this with rfl | rfl | rfl | rfl | rfl | rfl | rfl | rfl | rfl | rfl | rfl | rfl | rfl | rfl <;> exact ⟨[], by decide +kernel⟩
/-- .. in the law's list, with one more sign -/
theorem sign_atL {c : Nat} (h : Sg c ∨ c = 36) : ∃ rest, Builtin.Str.occurrences "0123456789 ()^$" ⟨#[c]⟩ 0 (Str.ofString "0123456789 ()^$").length 1 = code c :: rest := by
  unfold Sg at h
  have : c = 48 ∨ c = 49 ∨ c = 50 ∨ c = 51 ∨ c = 52 ∨ c = 53 ∨ c = 54 ∨ c = 55 ∨ c = 56 ∨ c = 57 ∨ c = 32 ∨ c = 40 ∨ c = 41 ∨ c = 94 ∨ c = 36 := by omega
  rcases this with rfl | rfl | rfl | rfl | rfl | rfl | rfl | rfl | rfl | rfl | rfl | rfl | rfl | rfl | rfl <;> exact ⟨[], by decide +kernel⟩
end Loc
namespace Loc
open PySem PySem.Spec PyProof.Rows L2 TL
theorem cp_stop : ∀ (a b : List Nat) (x y : Nat), a[cp a b]? = some x → b[cp a b]? = some y → x ≠ y
  | [], _, x, y, h, _ => by simp at h
  | _ :: _, [], x, y, _, h => by simp at h
  | a :: r, b :: q, x, y, h, k => by
    unfold cp at h k
    split at h
    · rename_i e
      rw [if_pos e] at k
      exact cp_stop r q x y (by simpa using h) (by simpa using k)
    · rename_i e
      rw [if_neg e] at k
      have e1 : a = x := by simpa using h
      have e2 : b = y := by simpa using k
      rw [← e1, ← e2]
      exact e
abbrev vT (ns : List Nd) : List V := ns.map fun n => V.str (txt n)
theorem vT_get {ns : List Nd} {i : Nat} {n : Nd} (h : ns[i]? = some n) : (vT ns)[i]? = some (.str (txt n)) := by
  rw [List.getElem?_map, h]
  rfl
theorem one_sign {c d : Nat} : decide (V.str ⟨#[c]⟩ = V.str ⟨#[d]⟩) = decide (c = d) := by
  by_cases h : c = d
  · rw [h, decide_eq_true rfl, decide_eq_true rfl]
  · rw [decide_eq_false h, decide_eq_false (fun e => h (by
      injection e with e
      injection e with e
      have := congrArg (fun a => a.toList) e
      simpa using this))]
theorem len_cd {a : Nd} {l : Nat} (h : Ok a l) (hw : wide l ≤ 1000000) : (txt a).length ≤ 1000000 ∧ (txt a).length ≤ sizeLine := by
  have := txt_len a l h
  have : (txt a).length ≤ 1000000 := by split at this <;> omega
  exact ⟨this, Nat.le_trans this (by decide)⟩
end Loc

set_option linter.all false
/-! pieces of a row: peaks, stretches, cuts -/
namespace M10
def pk (ms : List Nat) (i : Nat) : Bool := match ms[i - 1]?, ms[i]?, ms[i + 1]? with
  | some a, some b, some c => decide (a < b) && decide (c < b)
  | _, _, _ => false
def pks (ms : List Nat) : List Nat := (List.range' 2 (ms.length - 3)).filter (pk ms)
theorem pk_no {ms : List Nat} {i : Nat} (h : pk ms i = true) : pk ms (i + 1) = false := by
  unfold pk at h ⊢
  rw [Nat.add_sub_cancel]
  cases h0 : ms[i - 1]? with
  | none => rw [h0] at h; exact absurd h (by simp)
  | some a =>
    cases h1 : ms[i]? with
    | none => simp [h0, h1] at h
    | some b =>
      cases h2 : ms[i + 1]? with
      | none => simp
      | some c =>
        rw [h0, h1, h2] at h
        simp only [Bool.and_eq_true, decide_eq_true_eq] at h
        cases h3 : ms[i + 1 + 1]? with
        | none => simp
        | some d =>
          simp only [Bool.and_eq_false_iff, decide_eq_false_iff_not]
          omega
def Gap (n : Nat) : Nat → List Nat → Prop
  | b, [] => b + 2 ≤ n
  | b, t :: r => b + 2 ≤ t ∧ Gap n t r
theorem gap_filter {p : Nat → Bool} (hp : ∀ i, p i = true → p (i + 1) = false) (n : Nat) : ∀ k s b, (b + 2 ≤ s ∨ (b + 1 ≤ s ∧ p s = false)) → s + k + 1 ≤ n → b + 2 ≤ n → Gap n b ((List.range' s k).filter p)
  | 0, s, b, _, _, h => h
  | k + 1, s, b, h1, h2, h3 => by
    rw [List.range'_succ]
    cases e : p s with
    | true =>
      rw [List.filter_cons_of_pos e]
      refine ⟨?_, gap_filter hp n k (s + 1) s (.inr ⟨Nat.le_refl _, hp s e⟩) (by omega) (by omega)⟩
      rcases h1 with h1 | ⟨_, h1⟩
      · exact h1
      · rw [e] at h1; cases h1
    | false =>
      rw [List.filter_cons_of_neg (by rw [e]; simp)]
      exact gap_filter hp n k (s + 1) b (.inl (by rcases h1 with h1 | h1 <;> omega)) (by omega) h3
theorem pks_gap {ms : List Nat} (h : 2 ≤ ms.length) : Gap ms.length 0 (pks ms) := by
  unfold pks
  by_cases z : ms.length ≤ 3
  · rw [show ms.length - 3 = 0 by omega]
    exact h
  · exact gap_filter (p := pk ms) (fun i h => pk_no h) ms.length (ms.length - 3) 2 0 (.inl (Nat.le_refl _)) (by omega) h
/-- the pieces of the stretch of d nodes from b on -/
def str : Nat → Nat → List (Nat × Nat)
  | d + 4, b => (b, b + 2) :: str (d + 2) (b + 2)
  | d, b => [(b, b + d)]
def stz (z : Nat × Nat) : List (Nat × Nat) := str (z.2 - z.1) z.1
def sts (n : Nat) : Nat → List Nat → List (Nat × Nat)
  | b, [] => [(b, n)]
  | b, t :: r => (b, t) :: sts n t r
def pcs (n : Nat) (tops : List Nat) : List (Nat × Nat) := (sts n 0 tops).flatMap stz
theorem sts_fst (n : Nat) : ∀ b tops, (sts n b tops).map (·.1) = b :: tops
  | b, [] => rfl
  | b, t :: r => by rw [sts, List.map_cons, sts_fst n t r]
theorem sts_snd (n : Nat) : ∀ b tops, (sts n b tops).map (·.2) = tops ++ [n]
  | b, [] => rfl
  | b, t :: r => by rw [sts, List.map_cons, sts_snd n t r]; rfl
theorem sts_gap {n : Nat} : ∀ {b : Nat} {tops : List Nat}, Gap n b tops → ∀ z ∈ sts n b tops, z.1 + 2 ≤ z.2 ∧ z.2 ≤ n
  | b, [], h, z, hz => by
    have : z = (b, n) := by simpa [sts] using hz
    rw [this]
    exact ⟨h, Nat.le_refl _⟩
  | b, t :: r, h, z, hz => by
    have le : ∀ {b : Nat} {r : List Nat}, Gap n b r → b ≤ n := by
      intro b r
      induction r generalizing b with
      | nil => intro h; have : b + 2 ≤ n := h; omega
      | cons t r ih => intro h; have := ih h.2; have := h.1; omega
    rcases List.mem_cons.mp hz with e | hz
    · rw [e]
      exact ⟨h.1, le h.2⟩
    · exact sts_gap h.2 z hz
def Cont : Nat → Nat → List (Nat × Nat) → Prop
  | b, n, [] => b = n
  | b, n, z :: r => z.1 = b ∧ b + 2 ≤ z.2 ∧ z.2 ≤ b + 3 ∧ Cont z.2 n r
theorem str_cont : ∀ d b, 2 ≤ d → Cont b (b + d) (str d b)
  | 0, _, h => by omega
  | 1, _, h => by omega
  | 2, b, _ => ⟨rfl, Nat.le_refl _, by show b + 2 ≤ b + 3; omega, rfl⟩
  | 3, b, _ => ⟨rfl, by show b + 2 ≤ b + 3; omega, Nat.le_refl _, rfl⟩
  | d + 4, b, _ => by
    refine ⟨rfl, Nat.le_refl _, by show b + 2 ≤ b + 3; omega, ?_⟩
    have := str_cont (d + 2) (b + 2) (by omega)
    rw [show b + (d + 4) = b + 2 + (d + 2) by omega]
    exact this
theorem Cont.app : ∀ {xs ys : List (Nat × Nat)} {b t n : Nat}, Cont b t xs → Cont t n ys → Cont b n (xs ++ ys)
  | [], _, b, t, n, h, k => by have h : b = t := h; rw [h]; exact k
  | z :: r, ys, b, t, n, h, k => ⟨h.1, h.2.1, h.2.2.1, Cont.app h.2.2.2 k⟩
theorem sts_cont {n : Nat} : ∀ {b : Nat} {tops : List Nat}, Gap n b tops → Cont b n ((sts n b tops).flatMap stz)
  | b, [], h => by
    have h : b + 2 ≤ n := h
    show Cont b n (stz (b, n) ++ [])
    rw [List.append_nil]
    have := str_cont (n - b) b (by omega)
    rw [show b + (n - b) = n by omega] at this
    exact this
  | b, t :: r, h => by
    rw [sts, List.flatMap_cons]
    have := str_cont (t - b) b (by have := h.1; omega)
    rw [show b + (t - b) = t by have := h.1; omega] at this
    exact Cont.app this (sts_cont h.2)
theorem Cont.ends : ∀ {r : List (Nat × Nat)} {z : Nat × Nat} {b n : Nat}, Cont b n (z :: r) → r.map (·.1) ++ [n] = (z :: r).map (·.2)
  | [], z, b, n, h => by have := h.2.2.2; have this : z.2 = n := this; simp [this]
  | y :: r, z, b, n, h => by
    have := Cont.ends (r := r) (z := y) h.2.2.2
    have e : y.1 = z.2 := h.2.2.2.1
    rw [List.map_cons, List.cons_append, this, e]
    rfl
theorem Cont.bnd : ∀ {r : List (Nat × Nat)} {b n : Nat}, Cont b n r → b ≤ n ∧ ∀ z ∈ r, z.1 + 2 ≤ z.2 ∧ z.2 ≤ z.1 + 3 ∧ z.2 ≤ n
  | [], b, n, h => ⟨Nat.le_of_eq h, fun z hz => nomatch hz⟩
  | y :: r, b, n, h => by
    have k := Cont.bnd h.2.2.2
    have := h.1
    have := h.2.1
    have := h.2.2.1
    refine ⟨by omega, fun z hz => ?_⟩
    rcases List.mem_cons.mp hz with e | hz
    · rw [e]; omega
    · exact k.2 z hz
theorem Cont.len : ∀ {r : List (Nat × Nat)} {b n : Nat}, Cont b n r → b + 2 * r.length ≤ n
  | [], b, n, h => Nat.le_of_eq h
  | y :: r, b, n, h => by
    have k := Cont.len h.2.2.2
    have := h.2.1
    rw [List.length_cons]
    omega
theorem str_fst : ∀ d b, 2 ≤ d → (str d b).map (·.1) = (List.range (d / 2)).map fun k => b + k * 2
  | 0, _, h => by omega
  | 1, _, h => by omega
  | 2, b, _ => rfl
  | 3, b, _ => rfl
  | d + 4, b, _ => by
    have := str_fst (d + 2) (b + 2) (by omega)
    rw [str, List.map_cons, this, show (d + 4) / 2 = (d + 2) / 2 + 1 by omega, List.range_succ_eq_map, List.map_cons, List.map_map]
    have e : (List.map (fun k => b + 2 + k * 2) (List.range ((d + 2) / 2))) = List.map ((fun k => b + k * 2) ∘ Nat.succ) (List.range ((d + 2) / 2)) := List.map_congr_left fun k _ => by
      show b + 2 + k * 2 = b + (k + 1) * 2
      omega
    rw [e]
    simp
end M10

set_option Elab.async false
set_option linter.all false
set_option maxRecDepth 100000
namespace C64
open PySem PySem.Spec PyProof.Rows L2 Loc RZ
def topS (i : Nat) : Stmt := PySem.Challenge.pw_localblocks_k64_versions_put_and_dropped.main.body.getD i (.Pass ⟨0, 0, 0, 0⟩)
abbrev s__wall : Stmt := topS 0
abbrev sWhole : Stmt := topS 15
abbrev sElement : Stmt := topS 16
abbrev sCount : Stmt := topS 17
abbrev sIsRun : Stmt := topS 18
abbrev sIsBlk : Stmt := topS 19
abbrev sBase : Stmt := topS 20
abbrev sRunOf : Stmt := topS 21
abbrev sFit : Stmt := topS 22
abbrev sLevel : Stmt := topS 23
abbrev sSize : Stmt := topS 24
abbrev sText : Stmt := topS 25
abbrev s_node_with : Stmt := topS 26
abbrev s__closed : Stmt := topS 27
abbrev s__read_element : Stmt := topS 28
abbrev s__read_count : Stmt := topS 29
abbrev s__digits_end : Stmt := topS 30
abbrev s_whole_with : Stmt := topS 31
abbrev sFirst : Stmt := topS 35
abbrev sFM : Stmt := topS 36
abbrev sFU : Stmt := topS 37
abbrev sCodeAt : Stmt := topS 38
abbrev sNext : Stmt := topS 39
abbrev sNm : Stmt := topS 40
abbrev sMarks : Stmt := topS 41
abbrev sPeaks : Stmt := topS 42
abbrev sCuts : Stmt := topS 43
abbrev sBlocks : Stmt := topS 44
abbrev sMade : Stmt := topS 45
abbrev sIsRuns : Stmt := topS 48
abbrev sIsPair : Stmt := topS 49
abbrev sRows : Stmt := topS 50
abbrev sTree : Stmt := topS 51
abbrev s_melted : Stmt := topS 52
abbrev sLenOf : Stmt := topS 53
abbrev sCnt : Stmt := topS 54
abbrev sRunsOf : Stmt := topS 55
abbrev sPairs : Stmt := topS 56
abbrev s_spliced : Stmt := topS 58
abbrev s_part : Stmt := topS 59
abbrev s_joined : Stmt := topS 61
abbrev s__check_range : Stmt := topS 62
abbrev s__pairs_between : Stmt := topS 63
abbrev s__tree_of_pieces : Stmt := topS 64
abbrev s_repeated : Stmt := topS 68
abbrev s__with_runs : Stmt := topS 69
abbrev s__cut : Stmt := topS 70
abbrev s_show_runs : Stmt := topS 73
abbrev s_runs_with : Stmt := topS 74
abbrev s__pair_with : Stmt := topS 75
abbrev s_is_name : Stmt := topS 80
abbrev s__check_name : Stmt := topS 82
abbrev s__check_runs : Stmt := topS 83
abbrev s__trees_with : Stmt := topS 84
abbrev sPot : Stmt := topS 86
abbrev sTake : Stmt := topS 87
abbrev sOf : Stmt := topS 88
abbrev sSeq : Stmt := topS 89
abbrev sLRuns : Stmt := topS 90
abbrev sWide : Stmt := topS 91
abbrev sLText : Stmt := topS 92
abbrev sLFirst : Stmt := topS 93
abbrev sRound : Stmt := topS 94
abbrev sLMarks : Stmt := topS 95
abbrev sLPieces : Stmt := topS 96
abbrev sJoined : Stmt := topS 97
abbrev sLRows : Stmt := topS 98
abbrev sLTree : Stmt := topS 99
abbrev s__law_name : Stmt := topS 100
abbrev s__law_caught : Stmt := topS 101
abbrev sLaw : Stmt := topS 102
end C64

set_option Elab.async false
set_option linter.all false
set_option maxRecDepth 100000
namespace C64
open PySem PySem.Spec PyProof.Rows L2 Loc RZ
/-! ### the program's nodes -/
section
variable {P : Program} {w : World} {K : PySem.W.Frag} {mg : Str → Option Value} {base : Heap}
def spIsRun (K : PySem.W.Frag) : Sp := fun vs H Q _ => ∃ v n, vs = [v] ∧ NdV K H v n ∧ ∀ H', Same H H' → Q (.bl n.isRun) H'
def spIsBlk (K : PySem.W.Frag) : Sp := fun vs H Q _ => ∃ v n, vs = [v] ∧ NdV K H v n ∧ ∀ H', Same H H' → Q (.bl n.isBlk) H'
theorem scIsRun : FnScope ["value"] ["value"] (defScope sIsRun) := ⟨rfl, rfl, rfl, by decide +kernel, rfl, by decide +kernel, by decide +kernel⟩
theorem scIsBlk : FnScope ["value"] ["value"] (defScope sIsBlk) := ⟨rfl, rfl, rfl, by decide +kernel, rfl, by decide +kernel, by decide +kernel⟩
theorem shaped_one (s : Str) (h : PyData.canLay0 (.str s) = true) : SeqAt.shaped (.tuple [.str s]) = true := by
  unfold SeqAt.shaped
  rw [Bool.and_eq_true]
  exact ⟨by simp only [PyData.canLay0, PyData.canLayAll0] at h ⊢; rw [h]; rfl, decide_eq_true (by simp [PyData.depth, PyData.depthAll])⟩
theorem eqv_one (s t : Str) : PyData.eqv (.tuple [.str s]) (.tuple [.str t]) = (s == t) := by simp [PyData.eqv, PyData.eqvAll]
theorem ok_isrun {f : Addr} {fd : FuncData} {k : Nat} (F : Fun K "is_run" "is_run" sIsRun f fd) (mi : mg "isinstance" = none) (mt : mg "tuple" = none) : FnOk P w K mg base CX0 (k + 1) f fd ["value"] (spIsRun K) := by
  refine F.ok scIsRun (fun vs H Q E h => ?_) (fun cdv A outer s H vs Q E hr h => ?_)
  · obtain ⟨v, n, rfl, _⟩ := h
    rfl
  · obtain ⟨v, n, rfl, hn, q⟩ := h
    refine ⟨_, pss_one (ps_ret (pe_and (pe_callB call_isi (by rfl) mi PyProof.Rows.boot_isinstance (pa_cons (pv 0) (pa_cons (pe_bltn (v := .ty "tuple") (by rfl) mt PyProof.Rows.boot_tuple rfl) pa_nil)))
      (pe_one (pe_cmpR (op_eqD hr.units) (pe_slice sl_tupA (pv 0) po_none (po_some pe_int)) (pe_tup (pa_cons pe_str pa_nil)) (nomark _))))), ?_⟩
    cases n with
    | el n =>
      have ev := hn.el
      subst ev
      exact ⟨_, rfl, _, _, _, _, false, rfl, .ty "tuple", .base (.int _), kit_ty (by decide +kernel), _, rfl, q H (Same.refl H)⟩
    | run b c =>
      obtain ⟨a, v2, rfl, h1, h2⟩ := hn.run
      refine ⟨_, rfl, _, _, _, _, true, rfl, .ty "tuple", Loc.SqT.ty h1, kit_ty (by decide +kernel), _, rfl, ?_⟩
      refine ⟨.ref a, rfl, 1, rfl, a, _, rfl, h1, fun hw => absurd hw.2 (show ¬ HT.sIx 3 3 (some 1) = 3 by decide), fun hw p1 n1 => ⟨(show 1 ≤ sizeLine from by decide), fun p2 n2 => ?_⟩⟩
      refine ⟨.tuple [.str "run"], .tuple [.str "run"], .tup (.inl (.inl (sameN n2 _ _ upd_same))) (.cons (.str _) .nil), .tup (.inl (.inl upd_same)) (.cons (.str _) .nil), shaped_one _ str_run_ok.1, shaped_one _ str_run_ok.1, ?_⟩
      rw [eqv_one, beq_self_eq_true]
      exact q _ ((sameN n1).trans (sameN n2))
    | blk ps =>
      obtain ⟨a, b, vs, rfl, h1, h2, h3⟩ := hn.blk
      refine ⟨_, rfl, _, _, _, _, true, rfl, .ty "tuple", Loc.SqT.ty h1, kit_ty (by decide +kernel), _, rfl, ?_⟩
      refine ⟨.ref a, rfl, 1, rfl, a, _, rfl, h1, fun hw => absurd hw.2 (show ¬ HT.sIx 2 2 (some 1) = 2 by decide), fun hw p1 n1 => ⟨(show 1 ≤ sizeLine from by decide), fun p2 n2 => ?_⟩⟩
      refine ⟨.tuple [.str "block"], .tuple [.str "run"], .tup (.inl (.inl (sameN n2 _ _ upd_same))) (.cons (.str _) .nil), .tup (.inl (.inl upd_same)) (.cons (.str _) .nil), shaped_one _ str_run_ok.2, shaped_one _ str_run_ok.1, ?_⟩
      rw [eqv_one, unlike_sorts.2]
      exact q _ ((sameN n1).trans (sameN n2))
theorem ok_isblk {f : Addr} {fd : FuncData} {k : Nat} (F : Fun K "is_block" "is_block" sIsBlk f fd) (mi : mg "isinstance" = none) (mt : mg "tuple" = none) : FnOk P w K mg base CX0 (k + 1) f fd ["value"] (spIsBlk K) := by
  refine F.ok scIsBlk (fun vs H Q E h => ?_) (fun cdv A outer s H vs Q E hr h => ?_)
  · obtain ⟨v, n, rfl, _⟩ := h
    rfl
  · obtain ⟨v, n, rfl, hn, q⟩ := h
    refine ⟨_, pss_one (ps_ret (pe_and (pe_callB call_isi (by rfl) mi PyProof.Rows.boot_isinstance (pa_cons (pv 0) (pa_cons (pe_bltn (v := .ty "tuple") (by rfl) mt PyProof.Rows.boot_tuple rfl) pa_nil)))
      (pe_one (pe_cmpR (op_eqD hr.units) (pe_slice sl_tupA (pv 0) po_none (po_some pe_int)) (pe_tup (pa_cons pe_str pa_nil)) (nomark _))))), ?_⟩
    cases n with
    | el n =>
      have ev := hn.el
      subst ev
      exact ⟨_, rfl, _, _, _, _, false, rfl, .ty "tuple", .base (.int _), kit_ty (by decide +kernel), _, rfl, q H (Same.refl H)⟩
    | run b c =>
      obtain ⟨a, v2, rfl, h1, h2⟩ := hn.run
      refine ⟨_, rfl, _, _, _, _, true, rfl, .ty "tuple", Loc.SqT.ty h1, kit_ty (by decide +kernel), _, rfl, ?_⟩
      refine ⟨.ref a, rfl, 1, rfl, a, _, rfl, h1, fun hw => absurd hw.2 (show ¬ HT.sIx 3 3 (some 1) = 3 by decide), fun hw p1 n1 => ⟨(show 1 ≤ sizeLine from by decide), fun p2 n2 => ?_⟩⟩
      refine ⟨.tuple [.str "run"], .tuple [.str "block"], .tup (.inl (.inl (sameN n2 _ _ upd_same))) (.cons (.str _) .nil), .tup (.inl (.inl upd_same)) (.cons (.str _) .nil), shaped_one _ str_run_ok.1, shaped_one _ str_run_ok.2, ?_⟩
      rw [eqv_one, unlike_sorts.1]
      exact q _ ((sameN n1).trans (sameN n2))
    | blk ps =>
      obtain ⟨a, b, vs, rfl, h1, h2, h3⟩ := hn.blk
      refine ⟨_, rfl, _, _, _, _, true, rfl, .ty "tuple", Loc.SqT.ty h1, kit_ty (by decide +kernel), _, rfl, ?_⟩
      refine ⟨.ref a, rfl, 1, rfl, a, _, rfl, h1, fun hw => absurd hw.2 (show ¬ HT.sIx 2 2 (some 1) = 2 by decide), fun hw p1 n1 => ⟨(show 1 ≤ sizeLine from by decide), fun p2 n2 => ?_⟩⟩
      refine ⟨.tuple [.str "block"], .tuple [.str "block"], .tup (.inl (.inl (sameN n2 _ _ upd_same))) (.cons (.str _) .nil), .tup (.inl (.inl upd_same)) (.cons (.str _) .nil), shaped_one _ str_run_ok.2, shaped_one _ str_run_ok.2, ?_⟩
      rw [eqv_one, beq_self_eq_true]
      exact q _ ((sameN n1).trans (sameN n2))
/-- text_of, of nodes of less than m storeys -/
def spText (K : PySem.W.Frag) (m : Nat) : Sp := fun vs H Q _ => ∃ v n l, vs = [v] ∧ NdV K H v n ∧ Ok n l ∧ wide l ≤ 1000000 ∧ ht n < m ∧ ∀ H', Same H H' → Q (.str (txt n)) H'
theorem scText : FnScope ["node", "part"] ["node"] (defScope sText) := ⟨rfl, rfl, rfl, by decide +kernel, rfl, by decide +kernel, by decide +kernel⟩
theorem ok_text {f g b : Addr} {fd gd bd : FuncData} (F : Fun K "text_of" "text_of" sText f fd) (gF : mg "text_of" = some (.ref f)) (bF : Binds K fd ["node"] []) (R : Fun K "is_run" "is_run" sIsRun g gd) (gR : mg "is_run" = some (.ref g)) (bR : Binds K gd ["value"] [])
    (B : Fun K "is_block" "is_block" sIsBlk b bd) (gB : mg "is_block" = some (.ref b)) (bB : Binds K bd ["value"] []) (mi : mg "isinstance" = none) (mt : mg "tuple" = none) (ms : mg "str" = none) : ∀ m : Nat, FnOk P w K mg base CX0 (m + 1) f fd ["node"] (spText K m)
  | 0 => ⟨fun vs H Q E h => by obtain ⟨v, n, l, _, _, _, _, h, _⟩ := h; exact absurd h (Nat.not_lt_zero _), fun A outer s H args us vs Q E _ _ _ _ h => by obtain ⟨v, n, l, _, _, _, _, h, _⟩ := h; exact absurd h (Nat.not_lt_zero _)⟩
  | m + 1 => by
    have IH : FnOk P w K mg base CX0 (m + 1) f fd ["node"] (spText K m) := ok_text F gF bF R gR bR B gB bB mi mt ms m
    have GR : FnOk P w K mg base CX0 (m + 1) g gd ["value"] (spIsRun K) := ok_isrun R mi mt
    have GB : FnOk P w K mg base CX0 (m + 1) b bd ["value"] (spIsBlk K) := ok_isblk B mi mt
    refine F.ok scText (fun vs H Q E h => ?_) (fun cdv A outer s H vs Q E hr h => ?_)
    · obtain ⟨v, n, l, rfl, _⟩ := h
      rfl
    · obtain ⟨v, n, l, rfl, hn, ok, hw, hh, q⟩ := h
      refine ⟨_, pss_cons (ps_if (pt_val (pe_call GR hr (by rfl) gR R.kp bR .nil pass0 (pa_cons (pv 0) pa_nil)))
            (pss_one (ps_ret (pe_op op_add_str (pe_op op_add_str (pe_call IH hr (by rfl) gF F.kp bF .nil pass0 (pa_cons (pe_ix ix_tup (pv 0) pe_int (fun _ _ => rfl)) pa_nil)) pe_str) (pe_callTy call_str_int (by rfl) ms PyProof.Rows.boot_str (pa_cons (pe_ix ix_tup (pv 0) pe_int (fun _ _ => rfl)) pa_nil))))) pss_nil)
        (pss_cons (ps_if (pt_val (pe_call GB hr (by rfl) gB B.kp bB .nil pass0 (pa_cons (pv 0) pa_nil)))
            (pss_one (ps_ret (pe_op op_add_str (pe_op op_add_str pe_str (pe_join pe_str (pe_lc (own := [("part", 1)]) (g := gName 1) (tt := tYes) rfl scText.nd (pi_tup (pe_ix ix_tup (pv 0) pe_int (fun _ _ => rfl)))
              (blkOk_by (N := ["node", "part"]) (sc := defScope sText) (by decide +kernel)) (fun _ _ _ _ _ => pg_name (i := 1) scText.nd rfl (Or.inl rfl)) (fun _ _ _ _ _ => pts_nil)
              (fun _ _ _ _ _ => pe_call IH hr (by rfl) gF F.kp bF .nil pass0 (pa_cons (pv 1) pa_nil))))) pe_str))) pss_nil)
        (pss_one (ps_ret (pe_callTy call_str_int (by rfl) ms PyProof.Rows.boot_str (pa_cons (pv 0) pa_nil))))), ?_⟩
      have tl := txt_len n l ok
      refine ⟨v, rfl, v, n, rfl, hn, fun H1 s1 => ?_⟩
      have hn1 := hn.up (.of s1)
      cases n with
      | run b c =>
        refine ⟨_, rfl, iteT ?_⟩
        obtain ⟨a, v2, rfl, h1, h2⟩ := hn1.run
        unfold Ok at ok
        have tb := txt_len b l ok.2.2.2
        rw [ok.2.2.1] at tb
        simp only [Bool.false_eq_true, if_false] at tb
        have nl := numT_len (n := c) (k := 61) (by decide) (Nat.lt_of_le_of_lt ok.2.1 (by decide +kernel))
        have e1 : (Str.ofString "^").length = 1 := by decide +kernel
        refine ⟨.ref a, rfl, a, _, 1, v2, rfl, rfl, h1, rfl, v2, b, l, rfl, h2, ok.2.2.2, hw, ?_, fun H2 s2 => ?_⟩
        · unfold ht at hh
          omega
        refine ⟨_, _, rfl, rfl, ?_, .ref a, rfl, a, _, 2, .int c, rfl, rfl, sameT s2 h1, rfl, c, rfl, log60 ok.2.1, _, _, rfl, rfl, ?_, ?_⟩
        · rw [e1]
          exact Nat.le_trans (show (txt b).length + 1 ≤ 1000001 by omega) (by decide)
        · rw [strLen_append, e1]
          have : (numT c).length ≤ 61 := nl
          exact Nat.le_trans (show (txt b).length + 1 + (numT c).length ≤ 1000100 by omega) (by decide)
        · have := q H2 (s1.trans s2)
          unfold txt at this
          exact this
      | el n =>
        refine ⟨_, rfl, iteF ?_⟩
        refine ⟨v, rfl, v, .el n, rfl, hn1, fun H2 s2 => ⟨_, rfl, iteF ?_⟩⟩
        have ev := hn.el
        subst ev
        unfold Ok at ok
        refine ⟨_, rfl, n, rfl, log60 (Nat.le_trans ok.2 (by decide +kernel)), ?_⟩
        have := q H2 (s1.trans s2)
        unfold txt at this
        exact this
      | blk ps =>
        refine ⟨_, rfl, iteF ?_⟩
        refine ⟨v, rfl, v, .blk ps, rfl, hn1, fun H2 s2 => ⟨_, rfl, iteT ?_⟩⟩
        obtain ⟨a, bb, vs, rfl, h1, h2, h3⟩ := (hn1.up (.of s2)).blk
        have okc := ok
        unfold Ok at ok
        obtain ⟨l1, l2, l3, okp, _⟩ := ok
        have lv := h3.len
        have sm := txts_len ps (l - 1) okp
        obtain ⟨j, rfl⟩ : ∃ j, l = j + 1 := ⟨l - 1, by omega⟩
        simp only [Nat.add_sub_cancel] at sm okp
        have wj : wide (j + 1) = 3 * wide j + 110 := rfl
        have mm : ps.length * wide j ≤ 3 * wide j := Nat.mul_le_mul_right _ l3
        refine ⟨⟨_, rfl⟩, .ref a, rfl, a, _, 1, .ref bb, rfl, rfl, h1, rfl, bb, rfl, ⟨vs, h2⟩, fun D nD => ?_⟩
        refine lc_tup (xs := vs) (fun i H' => H' D = some (.lst (((txts ps).take i).map V.str)) ∧ Same H2 H') ⟨by rw [List.take_zero]; exact upd_same, sameN nD⟩ (fun i H' _ hp => sameT hp.2 h2) (fun i u H' hu hp => ?_) (fun H' hp => ?_)
        · obtain ⟨g1, s3⟩ := hp
          obtain ⟨x, hx, kx⟩ := (h3.up (.of s3)).get hu
          have hmem := List.mem_of_getElem? hx
          have ht2 : ht x < m := by
            have := hts_mem hmem
            unfold ht at hh
            omega
          have htx : (txts ps)[i]? = some (txt x) := by rw [txts_map, List.getElem?_map, hx]; rfl
          refine ⟨rfl, u, rfl, u, x, j, rfl, kx, okp.mem x hmem, by omega, ht2, fun H3 s4 => ⟨_, s4 _ _ g1, ?_, ?_, sameW (s3.trans s4) nD⟩⟩
          · rw [List.length_map]
            refine line5 (small_take ?_)
            rw [txts_map, List.length_map]
            omega
          · rw [upd_same, take_more htx, List.map_append]
            rfl
        · obtain ⟨g1, s3⟩ := hp
          have full : (txts ps).take vs.length = txts ps := List.take_of_length_le (by rw [txts_map, List.length_map, lv]; exact Nat.le_refl _)
          rw [full] at g1
          have e1 : (Str.ofString "(").length = 1 := by decide +kernel
          have e2 : (Str.ofString ")").length = 1 := by decide +kernel
          have e3 : (Str.ofString " ").length = 1 := by decide +kernel
          have e4 : (txts ps).length = ps.length := by rw [txts_map, List.length_map]
          have g := size_glued " " (txts ps)
          rw [e3, e4] at g
          have g' : (Txt.join " " (txts ps)).length = ((txts ps).map (·.length)).sum + (ps.length - 1) * 1 := g
          refine ⟨_, D, txts ps, rfl, rfl, .inl (.inl (.inl g1)), ?_, _, _, rfl, rfl, ?_, _, _, rfl, rfl, ?_, ?_⟩
          · rw [e3, e4]
            omega
          · rw [e1]
            refine Nat.le_trans (show 1 + (Txt.join " " (txts ps)).length ≤ 1000100 by omega) (by decide)
          · rw [strLen_append, e1, e2]
            refine Nat.le_trans (show 1 + (Txt.join " " (txts ps)).length + 1 ≤ 1000100 by omega) (by decide)
          · have := q H' (s1.trans (s2.trans s3))
            unfold txt at this
            exact this
end
/-! ### first marks -/
section
variable {P : Program} {w : World} {K : PySem.W.Frag} {mg : Str → Option Value} {base : Heap}
theorem scCode : FnScope ["text", "at"] ["text", "at"] (defScope sCodeAt) := ⟨rfl, rfl, rfl, by decide +kernel, rfl, by decide +kernel, by decide +kernel⟩
theorem scFU : FnScope ["one", "other", "at"] ["one", "other"] (defScope sFU) := ⟨rfl, rfl, rfl, by decide +kernel, rfl, by decide +kernel, by decide +kernel⟩
theorem scFM : FnScope ["texts", "place", "first"] ["texts", "place"] (defScope sFM) := ⟨rfl, rfl, rfl, by decide +kernel, rfl, by decide +kernel, by decide +kernel⟩
theorem scFirst : FnScope ["row", "texts", "node", "place"] ["row"] (defScope sFirst) := ⟨rfl, rfl, rfl, by decide +kernel, rfl, by decide +kernel, by decide +kernel⟩
def spCode : Sp := fun vs H Q _ => ∃ (s : Str) (t : List Nat) (i : Nat), vs = [.str s, .int i] ∧ TL.tl s = t ∧ (∀ c ∈ t, Sg c) ∧ s.length ≤ sizeLine ∧ Q (.int (codeAt t i : Nat)) H
def spFU : Sp := fun vs H Q _ => ∃ (s t : Str), vs = [.str s, .str t] ∧ s.length ≤ sizeLine ∧ t.length ≤ sizeLine ∧ Q (.int (cp (TL.tl s) (TL.tl t) : Nat)) H
theorem ok_code {f : Addr} {fd : FuncData} {k : Nat} {tS tE : Tok} (F : Fun K "_code_at" "_code_at" sCodeAt f fd) (ml : mg "len" = none) (gS : mg "SIGNS" = some (.str "0123456789 ()^" tS)) (gE : mg "ENDED" = some (.int 14 tE)) : FnOk P w K mg base CX0 (k + 1) f fd ["text", "at"] spCode := by
  refine F.ok scCode (fun vs H Q E h => ?_) (fun cdv A outer s H vs Q E hr h => ?_)
  · obtain ⟨s, t, i, rfl, _⟩ := h
    rfl
  · obtain ⟨x, t, i, rfl, rfl, hs, hl, q⟩ := h
    refine ⟨_, pss_cons (ps_if (pt_cmpR op_lt (pv 1) (pe_callB call_len_str (by rfl) ml PySem.boot_len (pa_cons (pv 0) pa_nil)) (nomark _))
        (pss_one (ps_ret (pe_m1 PySem.F.slot_str_index PySem.F.type_str_index mt_sindex (pe_glob (v := .str "0123456789 ()^") (by rfl) gS ⟨_, rfl⟩) (pe_ix ix_str (pv 0) (pv 1) (fun _ _ => rfl)) (by rfl) (by rfl) (by rfl)))) pss_nil)
      (pss_one (ps_ret (pe_glob (v := .int 14) (by rfl) gE ⟨_, rfl⟩))), ?_⟩
    refine ⟨_, rfl, _, rfl, x, rfl, hl, _, _, rfl, rfl, _, rfl, ite2 (fun e => ?_) (fun e => ?_)⟩
    · have e1 : (i : Int) < ((x.length : Nat) : Int) := of_decide_eq_true e
      rw [TL.len_tl] at e1
      obtain ⟨c, hc⟩ := get_of (l := TL.tl x) (i := i) (by omega)
      obtain ⟨rest, eo⟩ := sign_at (hs c (List.mem_of_getElem? hc))
      rw [codeAt_some hc] at q
      exact ⟨⟨_, rfl⟩, _, rfl, _, rfl, x, i, c, rfl, rfl, hl, atI_nat hc, _, _, _, rest, rfl, rfl, eo, q⟩
    · have e1 : ¬ (i : Int) < ((x.length : Nat) : Int) := fun z => e (decide_eq_true z)
      rw [TL.len_tl] at e1
      rw [codeAt_none (List.getElem?_eq_none_iff.mpr (by omega))] at q
      exact q
theorem ok_fu {f : Addr} {fd : FuncData} {k : Nat} (F : Fun K "_first_unlike" "_first_unlike" sFU f fd) (ml : mg "len" = none) : FnOk P w K mg base CX0 (k + 1) f fd ["one", "other"] spFU := by
  refine F.ok scFU (fun vs H Q E h => ?_) (fun cdv A outer s H vs Q E hr h => ?_)
  · obtain ⟨s, t, rfl, _⟩ := h
    rfl
  · obtain ⟨x, y, rfl, hx, hy, q⟩ := h
    refine ⟨_, pss_cons (ps_set (i := 2) scFU.nd rfl (.inl rfl) pe_int)
      (pss_cons (ps_while PassesOwn.never (PW.pt (pw_and (pt_cmpR op_lt (pv 2) (pe_callB call_len_str (by rfl) ml PySem.boot_len (pa_cons (pv 0) pa_nil)) (nomark _))
          (pw_and (pt_cmpR op_lt (pv 2) (pe_callB call_len_str (by rfl) ml PySem.boot_len (pa_cons (pv 1) pa_nil)) (nomark _))
          (pw_and1 (pt_cmpR op_eq (pe_ix ix_str (pv 0) (pv 2) (fun _ _ => rfl)) (pe_ix ix_str (pv 1) (pv 2) (fun _ _ => rfl)) (nomark _))))))
        (pss_one (ps_aug (i := 2) scFU.nd rfl (.inl rfl) pe_int ip_add)))
      (pss_one (ps_ret (pv 2)))), ?_⟩
    refine ⟨fun m σ H' => ∃ i : Nat, i + m = cp (TL.tl x) (TL.tl y) ∧ σ = [some (.str x), some (.str y), some (.int i)] ∧ H' = H, ⟨_, 0, Nat.zero_add _, rfl, rfl⟩, ?_⟩
    rintro m σ H' ⟨i, im, rfl, rfl⟩
    have lx := TL.len_tl x
    have ly := TL.len_tl y
    refine ⟨_, rfl, _, rfl, x, rfl, hx, _, _, rfl, rfl, _, rfl, ?_⟩
    by_cases c1 : i < (TL.tl x).length
    · obtain ⟨c, hc⟩ := get_of c1
      rw [show decide ((i : Int) < ((x.length : Nat) : Int)) = true from decide_eq_true (by omega)]
      refine ⟨_, rfl, _, rfl, y, rfl, hy, _, _, rfl, rfl, _, rfl, ?_⟩
      by_cases c2 : i < (TL.tl y).length
      · obtain ⟨d, hd⟩ := get_of c2
        rw [show decide ((i : Int) < ((y.length : Nat) : Int)) = true from decide_eq_true (by omega)]
        refine ⟨_, rfl, _, rfl, x, i, c, rfl, rfl, hx, atI_nat hc, _, rfl, _, rfl, y, i, d, rfl, rfl, hy, atI_nat hd, rfl, _, rfl, ?_⟩
        rw [Loc.one_sign]
        by_cases e : c = d
        · rw [decide_eq_true e]
          have hlt : i < cp (TL.tl x) (TL.tl y) := by
            rcases Nat.lt_or_ge i (cp (TL.tl x) (TL.tl y)) with z | z
            · exact z
            · have : i = cp (TL.tl x) (TL.tl y) := by omega
              rw [this] at hc hd
              exact absurd e (cp_stop _ _ c d hc hd)
          refine ⟨fun σ' H'' => σ' = [some (.str x), some (.str y), some (.int ((i + 1 : Nat) : Int))] ∧ H'' = H', fun σ' H'' hN => ⟨m - 1, by omega, i + 1, by omega, hN.1, hN.2⟩, ?_⟩
          refine ⟨_, rfl, i, 1, rfl, rfl, ?_, rfl⟩
          rw [Int.natCast_add]
          rfl
        · rw [decide_eq_false e]
          have : i = cp (TL.tl x) (TL.tl y) := by
            rcases Nat.lt_or_ge i (cp (TL.tl x) (TL.tl y)) with z | z
            · obtain ⟨u, h1, h2⟩ := cp_same _ _ i z
              rw [hc] at h1
              rw [hd] at h2
              exact absurd ((Option.some.inj h1).trans (Option.some.inj h2).symm) e
            · omega
          rw [← this] at q
          exact ⟨_, rfl, q⟩
      · rw [show decide ((i : Int) < ((y.length : Nat) : Int)) = false from decide_eq_false (by omega)]
        have : i = cp (TL.tl x) (TL.tl y) := by
          have := (cp_le (TL.tl x) (TL.tl y)).2
          omega
        rw [← this] at q
        exact ⟨_, rfl, q⟩
    · rw [show decide ((i : Int) < ((x.length : Nat) : Int)) = false from decide_eq_false (by omega)]
      have : i = cp (TL.tl x) (TL.tl y) := by
        have := (cp_le (TL.tl x) (TL.tl y)).1
        omega
      rw [← this] at q
      exact ⟨_, rfl, q⟩
def spFM (K : PySem.W.Frag) : Sp := fun vs H Q _ => ∃ (a : Addr) (ns : List Nd) (l : Nat) (z : Int) (i m : Nat), vs = [.ref a, .int z] ∧ z = i ∧ SqL K H a (vT ns) ∧ OkAll ns l ∧ wide l ≤ 1000000 ∧ (fms (ns.map cd))[i]? = some m ∧ Q (.int (m : Nat)) H
theorem ok_fm {f g c : Addr} {fd gd cd' : FuncData} {k : Nat} {tS tE : Tok} (F : Fun K "_first_mark" "_first_mark" sFM f fd) (U : Fun K "_first_unlike" "_first_unlike" sFU g gd) (gU : mg "_first_unlike" = some (.ref g)) (bU : Binds K gd ["one", "other"] [])
    (C : Fun K "_code_at" "_code_at" sCodeAt c cd') (gC : mg "_code_at" = some (.ref c)) (bC : Binds K cd' ["text", "at"] []) (ml : mg "len" = none) (gS : mg "SIGNS" = some (.str "0123456789 ()^" tS)) (gE : mg "ENDED" = some (.int 14 tE)) :
    FnOk P w K mg base CX0 (k + 2) f fd ["texts", "place"] (spFM K) := by
  have GU : FnOk P w K mg base CX0 (k + 1) g gd ["one", "other"] spFU := ok_fu U ml
  have GC : FnOk P w K mg base CX0 (k + 1) c cd' ["text", "at"] spCode := ok_code C ml gS gE
  refine F.ok scFM (fun vs H Q E h => ?_) (fun cdv A outer s H vs Q E hr h => ?_)
  · obtain ⟨a, ns, l, z, i, m, rfl, _⟩ := h
    rfl
  · obtain ⟨a, ns, l, z, i, m, rfl, rfl, hS, ok, hw, hm, q⟩ := h
    refine ⟨_, pss_cons (ps_if (pt_cmpR op_eq (pv 1) pe_int (nomark _)) (pss_one (ps_ret (pe_call GC hr (by rfl) gC C.kp bC .nil pass0 (pa_cons (pe_ix ix_list (pv 0) pe_int (fun _ _ => rfl)) (pa_cons pe_int pa_nil))))) pss_nil)
      (pss_cons (ps_set (i := 2) scFM.nd rfl (.inl rfl) (pe_call GU hr (by rfl) gU U.kp bU .nil pass0 (pa_cons (pe_ix ix_list (pv 0) (pe_op op_sub (pv 1) pe_int) (fun _ _ => rfl)) (pa_cons (pe_ix ix_list (pv 0) (pv 1) (fun _ _ => rfl)) pa_nil))))
      (pss_one (ps_ret (pe_op op_add (pe_op op_mul pe_int (pv 2)) (pe_call GC hr (by rfl) gC C.kp bC .nil pass0 (pa_cons (pe_ix ix_list (pv 0) (pv 1) (fun _ _ => rfl)) (pa_cons (pv 2) pa_nil))))))), ?_⟩
    have hi : i < ns.length := by
      have := (List.getElem?_eq_some_iff.mp hm).1
      rwa [fms_length, List.length_map] at this
    refine ⟨_, rfl, rfl, _, rfl, ite2 (fun e => ?_) (fun e => ?_)⟩
    · have e0 : (i : Int) = 0 := V.int.inj (of_decide_eq_true e)
      have e1 : i = 0 := by omega
      subst e1
      obtain ⟨n, hn⟩ := get_of hi
      have okn := ok.mem n (List.mem_of_getElem? hn)
      refine ⟨.ref a, rfl, a, _, ((0 : Nat) : Int), .str (txt n), rfl, rfl, hS, atI_nat (vT_get hn), txt n, cd n, 0, rfl, tl_txt n, cd_sg n, (len_cd okn hw).2, ?_⟩
      have : (fms (ns.map cd))[0]? = some (codeAt (cd n) 0) := by
        match ns, hn with
        | x :: r, hn =>
          have : x = n := by simpa using hn
          rw [this]
          rfl
      rw [hm] at this
      rw [← Option.some.inj this]
      exact q
    · have e1 : i ≠ 0 := fun z => e (by rw [z]; rfl)
      obtain ⟨j, rfl⟩ : ∃ j, i = j + 1 := ⟨i - 1, by omega⟩
      obtain ⟨x, hx⟩ := get_of (l := ns) (i := j) (by omega)
      obtain ⟨y, hy⟩ := get_of hi
      have okx := ok.mem x (List.mem_of_getElem? hx)
      have oky := ok.mem y (List.mem_of_getElem? hy)
      have em := fms_get (ns.map cd) j (cd x) (cd y) (by rw [List.getElem?_map, hx]; rfl) (by rw [List.getElem?_map, hy]; rfl)
      rw [hm] at em
      have em := Option.some.inj em
      refine ⟨.ref a, rfl, _, rfl, _, 1, rfl, rfl, a, _, _, .str (txt x), rfl, rfl, hS, at_of (j := j) (by omega) (vT_get hx), .ref a, rfl, _, rfl, a, _, _, .str (txt y), rfl, rfl, hS, atI_nat (vT_get hy), txt x, txt y, rfl, (len_cd okx hw).2, (len_cd oky hw).2, ?_⟩
      rw [tl_txt, tl_txt]
      refine ⟨_, rfl, 16, _, rfl, rfl, .inl ⟨by decide, by decide⟩, .ref a, rfl, _, rfl, a, _, _, .str (txt y), rfl, rfl, hS, atI_nat (vT_get hy), _, rfl, txt y, cd y, cp (cd x) (cd y), rfl, tl_txt y, cd_sg y, (len_cd oky hw).2, _, _, rfl, rfl, ?_⟩
      rw [em] at q
      unfold fmk at q
      rw [Int.natCast_add, Int.natCast_mul] at q
      exact q
/-- first_marks, of rows of nodes of less than m storeys -/
def spFirst (K : PySem.W.Frag) (m : Nat) : Sp := fun vs H Q _ => ∃ (a : Addr) (us : List V) (ns : List Nd) (l : Nat), vs = [.ref a] ∧ SqT K H a us ∧ NdsV K H us ns ∧ OkAll ns l ∧ wide l ≤ 1000000 ∧ (∀ n ∈ ns, ht n < m) ∧ ns.length ≤ 100000 ∧
  ∀ H' p, Same H H' → H' p = some (.tup ((fms (ns.map cd)).map fun n : Nat => V.int (n : Int))) → Q (.ref p) H'
structure FirstF (K : PySem.W.Frag) (mg : Str → Option Value) (fA fC fX f1 f2 f3 : Addr) (dA dC dX d1 d2 d3 : FuncData) (tS tE : Tok) : Prop where
  A : Fun K "is_run" "is_run" sIsRun fA dA
  C : Fun K "is_block" "is_block" sIsBlk fC dC
  X : Fun K "text_of" "text_of" sText fX dX
  F1 : Fun K "_first_mark" "_first_mark" sFM f1 d1
  F2 : Fun K "_first_unlike" "_first_unlike" sFU f2 d2
  F3 : Fun K "_code_at" "_code_at" sCodeAt f3 d3
  gA : mg "is_run" = some (.ref fA)
  gC : mg "is_block" = some (.ref fC)
  gX : mg "text_of" = some (.ref fX)
  gF1 : mg "_first_mark" = some (.ref f1)
  gF2 : mg "_first_unlike" = some (.ref f2)
  gF3 : mg "_code_at" = some (.ref f3)
  bA : Binds K dA ["value"] []
  bC : Binds K dC ["value"] []
  bX : Binds K dX ["node"] []
  bF1 : Binds K d1 ["texts", "place"] []
  bF2 : Binds K d2 ["one", "other"] []
  bF3 : Binds K d3 ["text", "at"] []
  SIGNS : mg "SIGNS" = some (.str "0123456789 ()^" tS)
  ENDED : mg "ENDED" = some (.int 14 tE)
  len : mg "len" = none
  tuple : mg "tuple" = none
  range : mg "range" = none
  isinstance : mg "isinstance" = none
  str : mg "str" = none
theorem ok_first {fA fC fX f1 f2 f3 f : Addr} {dA dC dX d1 d2 d3 fd : FuncData} {tS tE : Tok} (F : Fun K "first_marks" "first_marks" sFirst f fd) (X : FirstF K mg fA fC fX f1 f2 f3 dA dC dX d1 d2 d3 tS tE) (m : Nat) : FnOk P w K mg base CX0 (m + 3) f fd ["row"] (spFirst K m) := by
  have GX : FnOk P w K mg base CX0 (m + 1) fX dX ["node"] (spText K m) := ok_text X.X X.gX X.bX X.A X.gA X.bA X.C X.gC X.bC X.isinstance X.tuple X.str m
  have G1 : FnOk P w K mg base CX0 (m + 2) f1 d1 ["texts", "place"] (spFM K) := ok_fm X.F1 X.F2 X.gF2 X.bF2 X.F3 X.gF3 X.bF3 X.len X.SIGNS X.ENDED
  refine F.ok scFirst (fun vs H Q E h => ?_) (fun cdv A outer s H vs Q E hr h => ?_)
  · obtain ⟨a, us, ns, l, rfl, _⟩ := h
    rfl
  · obtain ⟨a, us, ns, l, rfl, hS, hn, ok, hw, hh, hl, q⟩ := h
    have r1 := hr.mono (j := m + 1) (by omega)
    refine ⟨_, pss_cons (ps_set (i := 1) scFirst.nd rfl (.inr rfl) (pe_lc (own := [("node", 2)]) (g := gName 2) (tt := tYes) rfl scFirst.nd (pi_tup (pv 0)) (blkOk_by (N := ["row", "texts", "node", "place"]) (sc := defScope sFirst) (by decide +kernel))
        (fun _ _ _ _ _ => pg_name (i := 2) scFirst.nd rfl (Or.inl rfl)) (fun _ _ _ _ _ => pts_nil) (fun _ _ _ _ _ => pe_call GX r1 (by rfl) X.gX X.X.kp X.bX .nil pass0 (pa_cons (pv 2) pa_nil))))
      (pss_one (ps_ret (pe_callTy call_tuple_of (by rfl) X.tuple PyProof.Rows.boot_tuple (pa_cons (pe_lc (own := [("place", 3)]) (g := gName 3) (tt := tYes) rfl scFirst.nd
        (pi_range1 (by rfl) X.range (pa_cons (pe_callB call_len_seq (by rfl) X.len PySem.boot_len (pa_cons (pv 1) pa_nil)) pa_nil)) (blkOk_by (N := ["row", "texts", "node", "place"]) (sc := defScope sFirst) (by decide +kernel))
        (fun _ _ _ _ _ => pg_name (i := 3) scFirst.nd rfl (Or.inl rfl)) (fun _ _ _ _ _ => pts_nil)
        (fun _ _ _ _ _ => pe_call G1 hr (by rfl) X.gF1 X.F1.kp X.bF1 .nil pass0 (pa_cons (pv 1) (pa_cons (pv 3) pa_nil)))) pa_nil)))), ?_⟩
    have hlu := hn.len
    refine ⟨.ref a, rfl, a, rfl, ⟨us, hS⟩, fun D nD => ?_⟩
    refine lc_tup (xs := us) (fun i H' => H' D = some (.lst (vT (ns.take i))) ∧ Same H H') ⟨by rw [List.take_zero]; exact upd_same, sameN nD⟩ (fun i H' _ hp => sameT hp.2 hS) (fun i u H' hu hp => ?_) (fun H1 hp => ?_)
    · obtain ⟨g1, s3⟩ := hp
      obtain ⟨x, hx, kx⟩ := (hn.up (.of s3)).get hu
      have hmem := List.mem_of_getElem? hx
      refine ⟨rfl, u, rfl, u, x, l, rfl, kx, ok.mem x hmem, hw, hh x hmem, fun H3 s4 => ⟨_, s4 _ _ g1, ?_, ?_, sameW (s3.trans s4) nD⟩⟩
      · rw [List.length_map]
        exact line5 (small_take hl)
      · rw [upd_same, take_more hx]
        exact congrArg (fun z => some (HO.lst z)) (show vT (ns.take i) ++ [V.str (txt x)] = vT (ns.take i ++ [x]) by unfold vT; rw [List.map_append]; rfl)
    obtain ⟨g1, s1⟩ := hp
    rw [hlu, List.take_length] at g1
    have lf : (fms (ns.map cd)).length = ns.length := by rw [fms_length, List.length_map]
    have lv : (vT ns).length = ns.length := List.length_map _
    refine ⟨.ref D, rfl, D, vT ns, rfl, .inl (.inl (.inl g1)), _, rfl, ?_, ?_, fun D2 nD2 => ?_⟩
    · show -(2 ^ 62) ≤ (((vT ns).length : Nat) : Int)
      omega
    · show (((vT ns).length : Nat) : Int) < 2 ^ 62
      rw [lv]
      omega
    refine lc_range (fun i H' => H' = upd H1 D2 (.lst (((fms (ns.map cd)).take i).map fun n : Nat => V.int (n : Int)))) (by rw [List.take_zero]; rfl) (fun i H' hi hp => ?_) (fun H' hp => ?_)
    · subst hp
      rw [Int.toNat_natCast, lv] at hi
      obtain ⟨mk, hmk⟩ := get_of (l := fms (ns.map cd)) (i := i) (by omega)
      refine ⟨rfl, .ref D, rfl, _, rfl, D, ns, l, _, i, mk, rfl, by omega, .inl (.inl (sameN nD2 _ _ g1)), ok, hw, hmk, _, upd_same, ?_, ?_⟩
      · rw [List.length_map]
        exact line5 (small_take (by omega))
      · rw [upd_upd, take_more hmk]
        exact congrArg (fun z => upd H1 D2 (.lst z)) (show ((fms (ns.map cd)).take i).map (fun n : Nat => V.int (n : Int)) ++ [V.int (mk : Int)] = ((fms (ns.map cd)).take i ++ [mk]).map (fun n : Nat => V.int (n : Int)) by rw [List.map_append]; rfl)
    · subst hp
      rw [Int.toNat_natCast, lv, ← lf, List.take_length]
      refine ⟨D2, _, rfl, .inl ⟨.inl (.inl upd_same), fun t nt => ?_⟩⟩
      exact q _ t (s1.trans ((sameN nD2).trans (sameN nt))) upd_same
end
/-! ### the later rounds -/
abbrev vN (ns : List Nat) : List V := ns.map fun n : Nat => V.int (n : Int)
theorem vN_get {ns : List Nat} {i n : Nat} (h : ns[i]? = some n) : (vN ns)[i]? = some (.int (n : Int)) := by
  rw [List.getElem?_map, h]
  rfl
theorem vN_len (ns : List Nat) : (vN ns).length = ns.length := List.length_map _
theorem vN_app (ns : List Nat) (n : Nat) : vN (ns ++ [n]) = vN ns ++ [.int (n : Int)] := List.map_append
section
variable {P : Program} {w : World} {K : PySem.W.Frag} {mg : Str → Option Value} {base : Heap}
theorem scNm : FnScope ["some", "place", "unlike", "lowest"] ["some", "place"] (defScope sNm) := ⟨rfl, rfl, rfl, by decide +kernel, rfl, by decide +kernel, by decide +kernel⟩
theorem scNext : FnScope ["some", "place"] ["some"] (defScope sNext) := ⟨rfl, rfl, rfl, by decide +kernel, rfl, by decide +kernel, by decide +kernel⟩
def spNm (K : PySem.W.Frag) : Sp := fun vs H Q _ => ∃ (a : Addr) (ns : List Nat) (z : Int) (i m : Nat), vs = [.ref a, .int z] ∧ z = i ∧ SqT K H a (vN ns) ∧ M07.Unl ns ∧ (M07.round ns)[i]? = some m ∧ Q (.int (m : Int)) H
theorem ok_nm {f : Addr} {fd : FuncData} {k : Nat} (F : Fun K "_next_mark" "_next_mark" sNm f fd) : FnOk P w K mg base CX0 (k + 1) f fd ["some", "place"] (spNm K) := by
  refine F.ok scNm (fun vs H Q E h => ?_) (fun cdv A outer s H vs Q E hr h => ?_)
  · obtain ⟨a, ns, z, i, m, rfl, _⟩ := h
    rfl
  · obtain ⟨a, ns, z, i, m, rfl, rfl, hS, un, hm, q⟩ := h
    refine ⟨_, pss_cons (ps_if (pt_cmpR op_eq (pv 1) pe_int (nomark _)) (pss_one (ps_ret (pe_op op_and (pe_ix ix_tup (pv 0) pe_int (fun _ _ => rfl)) pe_int))) pss_nil)
      (pss_cons (ps_set (i := 2) scNm.nd rfl (.inl rfl) (pe_op op_xor (pe_ix ix_tup (pv 0) (pe_op op_sub (pv 1) pe_int) (fun _ _ => rfl)) (pe_ix ix_tup (pv 0) (pv 1) (fun _ _ => rfl))))
      (pss_cons (ps_set (i := 3) scNm.nd rfl (.inl rfl) (pe_op op_sub (pe_bits (pe_op op_and (pv 2) (pe_un un_neg (pv 2)))) pe_int))
      (pss_one (ps_ret (pe_op op_add (pe_op op_mul pe_int (pv 3)) (pe_op op_and (pe_op op_shr (pe_ix ix_tup (pv 0) (pv 1) (fun _ _ => rfl)) (pv 3)) pe_int)))))), ?_⟩
    have hi : i < ns.length := by
      have := (List.getElem?_eq_some_iff.mp hm).1
      rwa [M07.round_length] at this
    refine ⟨.int i, rfl, rfl, _, rfl, ite2 (fun e => ?_) (fun e => ?_)⟩
    · have e0 : (i : Int) = 0 := V.int.inj (of_decide_eq_true e)
      have e1 : i = 0 := by omega
      subst e1
      match ns, hi, hm, hS with
      | n :: r, _, hm, hS =>
        have e2 : n % 2 = m := Option.some.inj hm
        refine ⟨.ref a, rfl, a, _, ((0 : Nat) : Int), .int n, rfl, rfl, hS, atI_nat (by rfl), n, 1, rfl, rfl, ?_⟩
        show Q (.int (Builtin.bitAnd (n : Int) 1)) H
        rw [PyProof.Rows.bitAnd_m1, ← show ((m : Nat) : Int) = (n : Int) % 2 by omega]
        exact q
    · have e1 : i ≠ 0 := fun z => e (by rw [z]; rfl)
      obtain ⟨j, rfl⟩ : ∃ j, i = j + 1 := ⟨i - 1, by omega⟩
      have gx : ns[j]? = some ns[j] := List.getElem?_eq_getElem (by omega)
      have gy : ns[j + 1]? = some ns[j + 1] := List.getElem?_eq_getElem hi
      have hne := M07.Unl.get un gx gy
      generalize ns[j] = x at gx hne
      generalize ns[j + 1] = y at gy hne
      have em := M07.round_get ns j x y gx gy
      rw [hm] at em
      have em := Option.some.inj em
      refine ⟨.ref a, rfl, .int ((j + 1 : Nat) : Int), rfl, _, 1, rfl, rfl, a, _, (j : Nat), .int x, rfl, ?_, hS, atI_nat (vN_get gx), .ref a, rfl, .int ((j + 1 : Nat) : Int), rfl, a, _, ((j + 1 : Nat) : Int), .int y, rfl, rfl, hS, atI_nat (vN_get gy), x, y, rfl, rfl, ?_⟩
      · show V.int (((j + 1 : Nat) : Int) - 1) = V.int (j : Nat)
        congr 1
        omega
      refine ⟨_, rfl, _, rfl, _, rfl, _, _, rfl, rfl, _, rfl, _, 1, rfl, rfl, _, rfl, 2, _, rfl, rfl, .inl ⟨by decide, by decide⟩, .ref a, rfl, .int ((j + 1 : Nat) : Int), rfl, a, _, ((j + 1 : Nat) : Int), .int y, rfl, rfl, hS, atI_nat (vN_get gy), _, rfl, y, _, rfl, rfl, ?_,
        _, 1, rfl, rfl, _, _, rfl, rfl, ?_⟩
      · show (0 : Int) ≤ ((Builtin.Int.intBits (Builtin.bitAnd (Builtin.bitXor (x : Int) (y : Int)) (-(Builtin.bitXor (x : Int) (y : Int)))) : Nat) : Int) - 1
        rw [M07.low_word hne]
        omega
      · have mw := M07.mark_word hne
        rw [← em] at mw
        rw [← mw] at q
        exact q
/-- next_marks -/
def spNext (K : PySem.W.Frag) : Sp := fun vs H Q _ => ∃ (a : Addr) (ns : List Nat), vs = [.ref a] ∧ SqT K H a (vN ns) ∧ M07.Unl ns ∧ ns.length ≤ 100000 ∧
  ∀ H' p, Same H H' → H' p = some (.tup (vN (M07.round ns))) → Q (.ref p) H'
theorem ok_next {f g : Addr} {fd gd : FuncData} {k : Nat} (F : Fun K "next_marks" "next_marks" sNext f fd) (M : Fun K "_next_mark" "_next_mark" sNm g gd) (gM : mg "_next_mark" = some (.ref g)) (bM : Binds K gd ["some", "place"] [])
    (ml : mg "len" = none) (mr : mg "range" = none) (mt : mg "tuple" = none) : FnOk P w K mg base CX0 (k + 2) f fd ["some"] (spNext K) := by
  have GM : FnOk P w K mg base CX0 (k + 1) g gd ["some", "place"] (spNm K) := ok_nm M
  refine F.ok scNext (fun vs H Q E h => ?_) (fun cdv A outer s H vs Q E hr h => ?_)
  · obtain ⟨a, ns, rfl, _⟩ := h
    rfl
  · obtain ⟨a, ns, rfl, hS, un, hl, q⟩ := h
    refine ⟨_, pss_one (ps_ret (pe_callTy call_tuple_of (by rfl) mt (by decide +kernel) (pa_cons (pe_lc (own := [("place", 1)]) (g := gName 1) (tt := tYes) rfl scNext.nd
      (pi_range1 (by rfl) mr (pa_cons (pe_callB call_len_seq (by rfl) ml PySem.boot_len (pa_cons (pv 0) pa_nil)) pa_nil)) (blkOk_by (N := ["some", "place"]) (sc := defScope sNext) (by decide +kernel))
      (fun _ _ _ _ _ => pg_name (i := 1) scNext.nd rfl (Or.inl rfl)) (fun _ _ _ _ _ => pts_nil)
      (fun _ _ _ _ _ => pe_call GM hr (by rfl) gM M.kp bM .nil pass0 (pa_cons (pv 0) (pa_cons (pv 1) pa_nil)))) pa_nil))), ?_⟩
    refine ⟨.ref a, rfl, a, _, rfl, .inr hS, _, rfl, ?_, ?_, fun D hD => ?_⟩
    · show -(2 ^ 62) ≤ (((vN ns).length : Nat) : Int)
      omega
    · show (((vN ns).length : Nat) : Int) < 2 ^ 62
      rw [vN_len]
      omega
    refine lc_range (fun i H' => H' = upd H D (.lst (vN ((M07.round ns).take i)))) (by rw [List.take_zero]; rfl) (fun i H' hi hp => ?_) (fun H' hp => ?_)
    · subst hp
      rw [Int.toNat_natCast, vN_len] at hi
      have hr' : i < (M07.round ns).length := by rw [M07.round_length]; exact hi
      have ge : (M07.round ns)[i]? = some (M07.round ns)[i] := List.getElem?_eq_getElem hr'
      refine ⟨rfl, .ref a, rfl, _, rfl, a, ns, _, i, _, rfl, by omega, sameT (sameN hD) hS, un, ge, vN ((M07.round ns).take i), upd_same, ?_, ?_⟩
      · rw [vN_len]
        exact line5 (small_take (by rw [M07.round_length]; exact hl))
      · rw [upd_upd, List.take_add_one, ge]
        exact congrArg (fun z => upd H D (.lst z)) (vN_app _ _).symm
    · subst hp
      rw [Int.toNat_natCast, vN_len, List.take_of_length_le (by rw [M07.round_length]; exact Nat.le_refl _)]
      refine ⟨D, _, rfl, .inl ⟨.inl (.inl upd_same), fun l hl' => ?_⟩⟩
      exact q _ _ (sameW (sameN hD) ((sameN hD).free hl')) upd_same
end
end C64

set_option Elab.async false
set_option linter.all false
set_option maxRecDepth 100000
namespace C64
open PySem PySem.Spec PyProof.Rows L2 Loc RZ
/-! ### the law's pot -/
section
variable {P : Program} {w : World} {K : PySem.W.Frag} {mg : Str → Option Value} {base : Heap}
theorem scPot : FnScope ["script", "k", "cell", "own"] ["script", "k"] (defScope sPot) := ⟨rfl, rfl, rfl, by decide +kernel, rfl, by decide +kernel, by decide +kernel⟩
theorem scTake : FnScope ["pot", "bound", "digit", "prime", "mixed"] ["pot", "bound"] (defScope sTake) := ⟨rfl, rfl, rfl, by decide +kernel, rfl, by decide +kernel, by decide +kernel⟩
theorem ok_pot {f : Addr} {fd : FuncData} {k : Nat} (F : Fun K "_law_pot" "_law_pot" sPot f fd) (ml : mg "len" = none) (ma : mg "abs" = none) (mi : mg "int" = none) :
    FnOk P w K mg base CX0 (k + 1) f fd ["script", "k"] (spPot K) := by
  refine F.ok scPot (fun vs H Q E h => ?_) (fun cdv A outer s H vs Q E hr h => ?_)
  · obtain ⟨a, ns, k, rfl, _⟩ := h
    rfl
  · obtain ⟨a, ns, k, rfl, hS, hl, hk, q⟩ := h
    refine ⟨_, pss_cons (ps_set (i := 2) scPot.nd rfl (.inl rfl) (pe_ifExp (pt_cmpR op_lt (pv 1) (pe_callB call_len_seq (by rfl) ml PySem.boot_len (pa_cons (pv 0) pa_nil)) (nomark _))
          (pe_ix ix_list (pv 0) (pv 1) (fun _ _ => rfl)) (pe_op op_add (pe_op op_mul pe_int (pv 1)) pe_int)))
      (pss_cons (ps_set (i := 3) scPot.nd rfl (.inl rfl) (pe_op op_mul
          (pe_op op_mod (pe_callB call_abs (by rfl) ma (by decide +kernel) (pa_cons (pv 2) pa_nil)) (pe_op op_powW (pe_op op_pow pe_int pe_int) pe_int))
          (pe_callTy call_int1 (by rfl) mi (by decide +kernel) (pa_cons (pe_cmpR op_ge (pe_callB call_abs (by rfl) ma (by decide +kernel) (pa_cons (pv 2) pa_nil)) (pe_op op_pow pe_int pe_int) (nomark _)) pa_nil))))
      (pss_one (ps_ret (pe_lst (pa_cons (pv 3) (pa_cons (pe_op op_mod (pe_op op_add (pe_op op_add (pe_op op_mul (pe_op op_mod (pv 2) pe_int) pe_int) (pe_op op_mul (pe_op op_mul pe_int (pv 1)) (pv 1))) pe_int) pe_int)
          (pa_cons pe_int pa_nil))))))), ?_⟩
    refine ⟨.int k, rfl, .ref a, rfl, a, ns.map V.int, rfl, .inl hS, k, (ns.map V.int).length, rfl, rfl, _, rfl, ?_⟩
    refine joinIf (fun v H' => (∃ c : Int, v = .int c) ∧ H' = H) ?key (fun e R hR => ?yes) (fun e R hR => ?no)
    case yes =>
      have e1 : (k : Int) < ((ns.map V.int).length : Int) := of_decide_eq_true e
      rw [List.length_map] at e1
      have hk2 : k < ns.length := by omega
      refine ⟨.ref a, rfl, .int k, rfl, a, _, k, .int ns[k], rfl, rfl, hS, atI_nat (by rw [List.getElem?_map, List.getElem?_eq_getElem hk2]; rfl), hR _ _ ⟨⟨_, rfl⟩, rfl⟩⟩
    case no =>
      exact ⟨.int k, rfl, 17, k, rfl, rfl, .inl ⟨by decide, by decide⟩, _, _, rfl, rfl, hR _ _ ⟨⟨_, rfl⟩, rfl⟩⟩
    case key =>
      rintro v H' ⟨⟨c, rfl⟩, rfl⟩
      refine ⟨.int c, rfl, c, rfl, 10, 60, rfl, rfl, ⟨by decide, by decide, by decide⟩, _, _, rfl, rfl, pow60, _, _, rfl, rfl, pow300', ?_⟩
      have m1 := mod_pos (a := if c < 0 then -c else c) pow300'
      have m2 := pow300
      refine ⟨.int c, rfl, c, rfl, 10, 18, rfl, rfl, ⟨by decide, by decide, by decide⟩, _, _, rfl, rfl, .inr ⟨_, rfl, _, _, rfl, rfl, .inr ?_, ?_⟩⟩
      · exact bit_small _
      have m3 := mul_bit ⟨m1.1, Int.lt_trans m1.2 m2⟩ (decide ((10 : Int) ^ (18 : Int).toNat ≤ if c < 0 then -c else c))
      have m4 := mod_pos (a := c) (show (0 : Int) < 2305843009213693951 by decide)
      refine ⟨_, rfl, .int c, rfl, c, _, rfl, rfl, (by show (0 : Int) < 2305843009213693951; decide), _, _, rfl, rfl, .inr ⟨by decide, by decide⟩, .int k, rfl, 7907, k, rfl, rfl, .inl ⟨by decide, by decide⟩, .int k, rfl, _, _, rfl, rfl, .inr ⟨by omega, by omega⟩,
        _, _, rfl, rfl, _, 41, rfl, rfl, _, _, rfl, rfl, (by show (0 : Int) < 2305843009213693921; decide), (show 3 ≤ sizeLine from by decide), fun p hp => ?_⟩
      have m5 := mod_pos (a := c % 2305843009213693951 * 69691 + 7907 * (k : Int) * (k : Int) + 41) (show (0 : Int) < 2305843009213693921 by decide)
      exact q p _ hp ⟨_, _, 0, rfl, m3.1, m3.2, m5.1, by omega, by decide, by decide⟩
theorem ok_take {f : Addr} {fd : FuncData} {k : Nat} (F : Fun K "_law_take" "_law_take" sTake f fd) : FnOk P w K mg base CX0 (k + 1) f fd ["pot", "bound"] spTake := by
  refine F.ok scTake (fun vs H Q E h => ?_) (fun cdv A outer s H vs Q E hr h => ?_)
  · obtain ⟨p, b, c, rfl, _⟩ := h
    rfl
  · obtain ⟨p, b, c, rfl, ⟨o, ep, own, mix, cnt, rfl, h1, h2, h3, h4, h5, h6⟩, hc, b1, b2, q⟩ := h
    refine ⟨_, pss_cons (ps_if (pt_cmpR op_gt (pe_ix ix_list (pv 0) pe_int (fun _ _ => rfl)) pe_int (nomark _))
        (pss_cons (ps_set (i := 2) scTake.nd rfl (.inl rfl) (pe_op op_mod (pe_ix ix_list (pv 0) pe_int (fun _ _ => rfl)) (pv 1)))
          (pss_cons (ps_asg (pe_op op_fdivW (pe_ix ix_list (pv 0) pe_int (fun _ _ => rfl)) (pv 1)) (pg_sub (pv 0) pe_int set_list)) (pss_one (ps_ret (pv 2))))) pss_nil)
      (pss_cons (ps_asg (pe_op op_add (pe_ix ix_list (pv 0) pe_int (fun _ _ => rfl)) pe_int) (pg_sub (pv 0) pe_int set_list))
      (pss_cons (ps_set (i := 3) scTake.nd rfl (.inl rfl) (pe_ix ix_list (pe_lst (pa_cons pe_int (pa_cons pe_int (pa_cons pe_int (pa_cons pe_int (pa_cons pe_int pa_nil)))))) (pe_op op_mod (pe_ix ix_list (pv 0) pe_int (fun _ _ => rfl)) pe_int) (fun _ _ => rfl)))
      (pss_cons (ps_set (i := 4) scTake.nd rfl (.inl rfl) (pe_op op_mod (pe_op op_pow (pe_op op_add (pe_op op_add (pe_ix ix_list (pv 0) pe_int (fun _ _ => rfl))
          (pe_op op_mul (pe_op op_mul pe_int (pe_ix ix_list (pv 0) pe_int (fun _ _ => rfl))) (pe_ix ix_list (pv 0) pe_int (fun _ _ => rfl)))) pe_int) pe_int) (pv 3)))
      (pss_one (ps_ret (pe_op op_mod (pe_op op_fdiv (pe_op op_mod (pe_op op_mul (pv 4) (pe_op op_add (pe_op op_mod (pv 4) pe_int) (pe_op op_mul pe_int (pe_ix ix_list (pv 0) pe_int (fun _ _ => rfl))))) pe_int) pe_int) (pv 1))))))), ?_⟩
    have hS : SqL K H p [.int own, .int mix, .int cnt] := .inl (.inl ep)
    refine ⟨.ref p, rfl, p, _, 0, .int own, rfl, rfl, hS, rfl, own, 0, rfl, rfl, _, rfl, ite2 (fun e => ?_) (fun e => ?_)⟩
    · have hpos : 0 < own := of_decide_eq_true e
      refine ⟨.ref p, rfl, p, _, 0, .int own, rfl, rfl, hS, rfl, .int b, rfl, own, b, rfl, rfl, b1, ?_⟩
      refine ⟨.ref p, rfl, p, _, 0, .int own, rfl, rfl, hS, rfl, .int b, rfl, own, b, rfl, rfl, ⟨b1, ?_⟩, .ref p, rfl, p, _, 0, 0, rfl, rfl, ep, rfl, ?_⟩
      · exact (wide_div (i := own) b1 (natAbs_lt (Int.le_of_lt b1) b2) (by decide) (by decide)).2
      · have dv := div_small h1 b1
        exact ⟨.int (own % b), rfl, q _ _ (mod_pos b1).1 (mod_pos b1).2 .set (.put ⟨own / b, mix, cnt, rfl, dv.1, Int.lt_of_le_of_lt dv.2 h2, h3, h4, h5, by omega⟩)⟩
    · refine ⟨.ref p, rfl, p, _, 2, .int cnt, rfl, rfl, hS, rfl, cnt, 1, rfl, rfl, .ref p, rfl, p, _, 2, 2, rfl, rfl, ep, rfl, ?_⟩
      refine ⟨(show 5 ≤ sizeLine from by decide), fun l hl => ?_⟩
      have np : p ≠ l := fun z => by
        rw [z, upd_same] at hl
        cases hl
      have hS1 : SqL K (upd (upd H p (.lst [.int own, .int mix, .int (cnt + 1)])) l (.lst [.int 2147483647, .int 2147483629, .int 2147483587, .int 2147483579, .int 2147483563])) p [.int own, .int mix, .int (cnt + 1)] :=
        .inl (.inl (by rw [upd_ne np, upd_same]))
      obtain ⟨pr, e1, e2, e3⟩ := prime_at (n := cnt + 1) (by omega)
      have bs := base_small h3 h4 (c := cnt + 1) (by omega) (by omega)
      refine ⟨.ref p, rfl, p, _, 2, .int (cnt + 1), rfl, rfl, hS1, rfl, cnt + 1, 5, rfl, rfl, (show (0 : Int) < 5 by decide), l, _, _, .int pr, rfl, rfl, .inl (.inl upd_same), e1, ?_⟩
      refine ⟨.ref p, rfl, p, _, 1, .int mix, rfl, rfl, hS1, rfl, .ref p, rfl, p, _, 2, .int (cnt + 1), rfl, rfl, hS1, rfl, 99991, cnt + 1, rfl, rfl, .inl ⟨by decide, by decide⟩,
        .ref p, rfl, p, _, 2, .int (cnt + 1), rfl, rfl, hS1, rfl, _, cnt + 1, rfl, rfl, .inr ⟨by omega, by omega⟩, mix, _, rfl, rfl, _, 29, rfl, rfl, _, 3, rfl, rfl, ⟨by decide, by decide, natAbs_lt bs.1 bs.2⟩, .int pr, rfl, _, pr, rfl, rfl, e2, ?_⟩
      have mx := mod_pos (a := (mix + 99991 * (cnt + 1) * (cnt + 1) + 29) ^ (3 : Int).toNat) e2
      have mx1 : -(2 ^ 64) < (mix + 99991 * (cnt + 1) * (cnt + 1) + 29) ^ (3 : Int).toNat % pr := Int.lt_of_lt_of_le (by decide) mx.1
      have mx2 : (mix + 99991 * (cnt + 1) * (cnt + 1) + 29) ^ (3 : Int).toNat % pr < 2 ^ 64 := Int.lt_trans mx.2 (Int.lt_trans e3 (by decide))
      refine ⟨_, rfl, _, rfl, _, 10007, rfl, rfl, (show (0 : Int) < 10007 by decide), .ref p, rfl, p, _, 2, .int (cnt + 1), rfl, rfl, hS1, rfl, 71, cnt + 1, rfl, rfl, .inl ⟨by decide, by decide⟩, _, _, rfl, rfl,
        _, _, rfl, rfl, .inl ⟨mx1, mx2⟩, _, _, rfl, rfl, (show (0 : Int) < 2305843009213693907 by decide), _, 103, rfl, rfl, ⟨by decide, by decide⟩, .int b, rfl, _, b, rfl, rfl, b1, ?_⟩
      exact q _ _ (mod_pos b1).1 (mod_pos b1).2 (But.trans .set (.new hl)) ⟨_, by rw [upd_ne np, upd_same]; rfl, own, mix, cnt + 1, rfl, h1, h2, h3, h4, by omega, by omega⟩
theorem scOf : FnScope ["pot", "some"] ["pot", "some"] (defScope sOf) := ⟨rfl, rfl, rfl, by decide +kernel, rfl, by decide +kernel, by decide +kernel⟩
theorem ok_of {f g : Addr} {fd gd : FuncData} {k : Nat} (F : Fun K "_law_of" "_law_of" sOf f fd) (T : Fun K "_law_take" "_law_take" sTake g gd) (gT : mg "_law_take" = some (.ref g)) (bT : Binds K gd ["pot", "bound"] [])
    (ml : mg "len" = none) : FnOk P w K mg base CX0 (k + 2) f fd ["pot", "some"] spOf := by
  have GT : FnOk P w K mg base CX0 (k + 1) g gd ["pot", "bound"] spTake := ok_take T
  refine F.ok scOf (fun vs H Q E h => ?_) (fun cdv A outer s H vs Q E hr h => ?_)
  · obtain ⟨p, a, xs, c, rfl, _⟩ := h
    rfl
  · obtain ⟨p, a, xs, c, rfl, hp, hc, ne, ha, h0, hl, q⟩ := h
    refine ⟨_, pss_one (ps_ret (pe_ix ix_list (pv 1) (pe_call GT hr (by rfl) gT T.kp bT .nil pass0 (pa_cons (pv 0) (pa_cons (pe_callB call_len_seq (by rfl) ml PySem.boot_len (pa_cons (pv 1) pa_nil)) pa_nil))) (fun _ _ => rfl))), ?_⟩
    have hS : SqL K H a xs := .inl (.inl ha)
    have hx : 0 < xs.length := List.length_pos_iff.mpr h0
    refine ⟨.ref a, rfl, .ref p, rfl, .ref a, rfl, a, xs, rfl, .inl hS, p, xs.length, c, rfl, hp, hc, by omega, small_pow hl, fun d H' d0 d1 bt pt => ?_⟩
    obtain ⟨j, rfl⟩ := Int.eq_ofNat_of_zero_le d0
    have hj : j < xs.length := by omega
    have g : xs[j]? = some xs[j] := List.getElem?_eq_getElem hj
    exact ⟨a, xs, j, xs[j], rfl, rfl, bt.sql ne hS, atI_nat g, q j _ H' g bt pt⟩
end
/-! ### drawn sequences -/
section
variable {P : Program} {w : World} {K : PySem.W.Frag} {mg : Str → Option Value} {base : Heap}
theorem scSeq : FnScope ["pot", "most", "way", "many", "found", "kinds", "step"] ["pot", "most"] (defScope sSeq) := ⟨rfl, rfl, rfl, by decide +kernel, rfl, by decide +kernel, by decide +kernel⟩
/-- elements -/
def EL (ns : List Nd) : Prop := ∀ n ∈ ns, ∃ k : Nat, n = .el k ∧ k ≤ 10 ^ 9
theorem EL.app {ns : List Nd} {k : Nat} (h : EL ns) (l : k ≤ 10 ^ 9) : EL (ns ++ [.el k]) := fun n hn => by
  rcases List.mem_append.mp hn with hn | hn
  · exact h n hn
  · exact ⟨k, List.mem_singleton.mp hn, l⟩
theorem EL.ok {ns : List Nd} (h : EL ns) : OkAll ns 0 := OkAll.of fun n hn => by
  obtain ⟨k, rfl, l⟩ := h n hn
  unfold Ok
  exact ⟨rfl, l⟩
theorem ndsV_els {H H' : Hp} : ∀ {ns : List Nd} {vs : List V}, EL ns → NdsV K H vs ns → NdsV K H' vs ns
  | [], vs, _, h => by rw [h.inv0]; exact .nil
  | a :: r, vs, e, h => by
    obtain ⟨v, q, rfl, k1, k2⟩ := h.inv
    obtain ⟨k, rfl, _⟩ := e a List.mem_cons_self
    rw [k1.el]
    exact .cons (.ofEl k) (ndsV_els (fun n hn => e n (List.mem_cons_of_mem _ hn)) k2)
def spSeq (K : PySem.W.Frag) : Sp := fun vs H Q _ => ∃ (p : Addr) (most c : Nat), vs = [.ref p, .int most] ∧ most ≤ 200 ∧ Pot H p c ∧ c < 800000 ∧
  ∀ H' a xs ns, But p H H' → H a = none → H' a = some (.lst xs) → NdsV K H' xs ns → EL ns → ns.length ≤ most → Pot H' p (c + 500) → Q (.ref a) H'
theorem ok_seq {f fT fO : Addr} {fd dT dO : FuncData} (F : Fun K "_law_sequence" "_law_sequence" sSeq f fd) (T : Fun K "_law_take" "_law_take" sTake fT dT) (gT : mg "_law_take" = some (.ref fT)) (bT : Binds K dT ["pot", "bound"] [])
    (O : Fun K "_law_of" "_law_of" sOf fO dO) (gO : mg "_law_of" = some (.ref fO)) (bO : Binds K dO ["pot", "some"] []) (ml : mg "len" = none) : FnOk P w K mg base CX0 3 f fd ["pot", "most"] (spSeq K) := by
  have GT : FnOk P w K mg base CX0 2 fT dT ["pot", "bound"] spTake := ok_take T
  have GO : FnOk P w K mg base CX0 2 fO dO ["pot", "some"] spOf := ok_of O T gT bT ml
  refine F.ok scSeq (fun vs H Q E h => ?_) (fun cdv A outer s H vs Q E hr h => ?_)
  · obtain ⟨p, most, c, rfl, _⟩ := h
    rfl
  · obtain ⟨p, most, c, rfl, hm, hp, hc, q⟩ := h
    refine ⟨_, pss_cons (ps_par3 (i := 2) (j := 3) (l := 4) (by rfl) scSeq.nd rfl rfl rfl (by decide) (by decide) (by decide) rfl rfl rfl
          (pa_cons (pe_call GT hr (by rfl) gT T.kp bT .nil pass0 (pa_cons (pv 0) (pa_cons pe_int pa_nil))) (pa_cons (pe_call GT hr (by rfl) gT T.kp bT .nil pass0 (pa_cons (pv 0) (pa_cons (pe_op op_add (pv 1) pe_int) pa_nil))) (pa_cons (pe_lst pa_nil) pa_nil))) (by rfl))
      (pss_cons (ps_par (i := 5) (j := 6) (by rfl) scSeq.nd rfl rfl (by decide) rfl rfl
          (pa_cons (pe_call GO hr (by rfl) gO O.kp bO .nil pass0 (pa_cons (pv 0) (pa_cons (pe_lst (pa_cons pe_int (pa_cons pe_int (pa_cons pe_int (pa_cons pe_int (pa_cons pe_int pa_nil)))))) pa_nil)))
            (pa_cons (pe_op op_add pe_int (pe_call GT hr (by rfl) gT T.kp bT .nil pass0 (pa_cons (pv 0) (pa_cons pe_int pa_nil)))) pa_nil)) (by rfl))
      (pss_cons (ps_while PassesOwn.never (pt_cmpR op_lt (pe_callB call_len_seq (by rfl) ml PySem.boot_len (pa_cons (pv 4) pa_nil)) (pv 3) (nomark _))
        (pss_one (ps_if (PW.pt (pw_and (pt_cmpR op_eq (pv 2) pe_int (nomark _)) (pw_and1 (pt_cmpR op_ge (pe_callB call_len_seq (by rfl) ml PySem.boot_len (pa_cons (pv 4) pa_nil)) (pv 6) (nomark _)))))
          (pss_one (ps_expr (pe_bm PySem.F.plainAttrs_list PySem.F.slot_list_append PySem.F.type_list_append mt_append (pv 4) (pa_cons (pe_ix ix_list (pv 4) (pe_op op_sub (pe_callB call_len_seq (by rfl) ml PySem.boot_len (pa_cons (pv 4) pa_nil)) (pv 6)) (fun _ _ => rfl)) pa_nil))))
          (pss_one (ps_if (pt_cmpR op_eq (pv 2) pe_int (nomark _))
            (pss_one (ps_expr (pe_bm PySem.F.plainAttrs_list PySem.F.slot_list_append PySem.F.type_list_append mt_append (pv 4) (pa_cons (pe_op op_mod (pe_op op_mul (pe_callB call_len_seq (by rfl) ml PySem.boot_len (pa_cons (pv 4) pa_nil)) (pv 6)) pe_int) pa_nil))))
            (pss_one (ps_if (pt_cmpR op_eq (pv 2) pe_int (nomark _))
              (pss_one (ps_expr (pe_bm PySem.F.plainAttrs_list PySem.F.slot_list_append PySem.F.type_list_append mt_append (pv 4) (pa_cons (pe_call GO hr (by rfl) gO O.kp bO .nil pass0 (pa_cons (pv 0) (pa_cons (pe_lst (pa_cons pe_int (pa_cons pe_int (pa_cons pe_int (pa_cons pe_int
                (pa_cons (pe_op op_pow pe_int pe_int) (pa_cons (pe_call GT hr (by rfl) gT T.kp bT .nil pass0 (pa_cons (pv 0) (pa_cons (pe_op op_add (pe_op op_pow pe_int pe_int) pe_int) pa_nil))) pa_nil))))))) pa_nil))) pa_nil))))
              (pss_one (ps_if (PW.pt (pw_and (pt_cmpR op_eq (pv 2) pe_int (nomark _)) (pw_and1 (pt_cmpR (op_neD hr.units) (pv 4) (pe_lst pa_nil) (nomark _)))))
                (pss_one (ps_expr (pe_bm PySem.F.plainAttrs_list PySem.F.slot_list_append PySem.F.type_list_append mt_append (pv 4) (pa_cons (pe_ifExp (pt_cmpR op_gt (pe_call GT hr (by rfl) gT T.kp bT .nil pass0 (pa_cons (pv 0) (pa_cons pe_int pa_nil))) pe_int (nomark _))
                  (pe_ix ix_list (pv 4) (pe_un un_neg pe_int) (fun _ _ => rfl)) (pe_call GT hr (by rfl) gT T.kp bT .nil pass0 (pa_cons (pv 0) (pa_cons (pv 5) pa_nil)))) pa_nil))))
                (pss_one (ps_expr (pe_bm PySem.F.plainAttrs_list PySem.F.slot_list_append PySem.F.type_list_append mt_append (pv 4) (pa_cons (pe_call GT hr (by rfl) gT T.kp bT .nil pass0 (pa_cons (pv 0) (pa_cons (pv 5) pa_nil))) pa_nil)))))))))))))
      (pss_one (ps_ret (pv 4))))), ?_⟩
    refine ⟨.ref p, rfl, p, 6, c, rfl, hp, by omega, by decide, by decide +kernel, fun way H1 y0 y1 b1 p1 => ?_⟩
    refine ⟨.ref p, rfl, _, rfl, _, 1, rfl, rfl, p, _, _, rfl, p1, by omega, by omega, ?_, fun many H2 z0 z1 b2 p2 => ?_⟩
    · exact Int.lt_of_le_of_lt (show ((most : Nat) : Int) + 1 ≤ 201 by omega) (by decide +kernel)
    refine ⟨(show 0 ≤ sizeLine from by decide), fun FF nF => ⟨_, _, _, rfl, ?_⟩⟩
    refine ⟨.ref p, rfl, (show 5 ≤ sizeLine from by decide), fun l5 nl5 => ?_⟩
    have p3 := p2.new (o := .lst []) nF
    have nFp : FF ≠ p := p2.ne nF
    refine ⟨p, l5, _, _, rfl, p3.new nl5, by omega, p3.ne nl5, upd_same, List.cons_ne_nil _ _, (show 5 ≤ 1000 from by decide), fun j x H3 hj b3 p4 => ?_⟩
    obtain ⟨kn, rfl, kn1, kn2⟩ : ∃ n : Nat, x = .int n ∧ 1 ≤ n ∧ n ≤ 10 := by
      have := List.mem_of_getElem? hj
      simp only [List.mem_cons, List.not_mem_nil, or_false] at this
      rcases this with rfl | rfl | rfl | rfl | rfl
      · exact ⟨2, rfl, by decide, by decide⟩
      · exact ⟨2, rfl, by decide, by decide⟩
      · exact ⟨3, rfl, by decide, by decide⟩
      · exact ⟨4, rfl, by decide, by decide⟩
      · exact ⟨10, rfl, by decide, by decide⟩
    refine ⟨.ref p, rfl, p, 7, _, rfl, p4, by omega, by decide, by decide +kernel, fun d H4 d0 d1 b4 p5 => ⟨1, d, rfl, rfl, _, _, rfl, ?_⟩⟩
    have d1' : d < 7 := d1
    have bA : But p H H4 := ((b1.trans b2).trans (.new nF)).trans ((But.new nl5).trans (b3.trans b4))
    have gF : H4 FF = some (.lst []) := (b3.trans b4).at nFp (sameN nl5 _ _ upd_same)
    have nFH : H FF = none := (b1.trans b2).freeP p2 nF
    have z1' : many < ((most : Nat) : Int) + 1 := z1
    obtain ⟨mn, rfl⟩ : ∃ mn : Nat, many = mn := ⟨many.toNat, by omega⟩
    refine ⟨fun m' σ H' => ∃ xs ns, m' = mn - ns.length ∧ ns.length ≤ mn ∧ σ = [some (.ref p), some (.int most), some (.int way), some (.int (mn : Nat)), some (.ref FF), some (.int (kn : Nat)), some (.int (1 + d))] ∧ H' FF = some (.lst xs) ∧ NdsV K H' xs ns ∧ EL ns ∧ But p H H' ∧ Pot H' p (c + 5 + 2 * ns.length),
      ⟨mn, [], [], rfl, Nat.zero_le _, rfl, gF, .nil, (fun n hn => nomatch hn), bA, p5.le (by omega)⟩, ?_⟩
    rintro m' σ H5 ⟨xs, ns, rfl, hle, rfl, e1, e2, e3, e5, e6⟩
    have hlx := e2.len
    refine ⟨.ref FF, rfl, FF, xs, rfl, .inl (.inl (.inl e1)), _, rfl, _, _, rfl, rfl, _, rfl, ite2 (fun e => ?_) (fun e => ?_)⟩
    · have hlt : ns.length < mn := by
        have : ((xs.length : Nat) : Int) < (mn : Int) := of_decide_eq_true e
        omega
      refine ⟨fun σ' H' => ∃ xs ns', ns'.length = ns.length + 1 ∧ σ' = [some (.ref p), some (.int most), some (.int way), some (.int (mn : Nat)), some (.ref FF), some (.int (kn : Nat)), some (.int (1 + d))] ∧ H' FF = some (.lst xs) ∧ NdsV K H' xs ns' ∧ EL ns' ∧ But p H H' ∧ Pot H' p (c + 5 + 2 * ns'.length), fun σ' H' hN => ?_, ?_⟩
      · obtain ⟨x2, n2, k1, k2, k3⟩ := hN
        exact ⟨mn - n2.length, by omega, x2, n2, rfl, by omega, k2, k3⟩
      have lx : xs.length < sizeLine := line5 (by omega)
      have fin : ∀ (H6 : Hp) (v : V) (k : Nat), v = .int k → k ≤ 10 ^ 9 → But p H5 H6 → Pot H6 p (c + 5 + 2 * ns.length + 2) → ∃ xs' ns', ns'.length = ns.length + 1 ∧ [some (V.ref p), some (.int most), some (.int way), some (.int (mn : Nat)), some (.ref FF), some (.int (kn : Nat)), some (.int (1 + d))] = [some (V.ref p), some (.int most), some (.int way), some (.int (mn : Nat)), some (.ref FF), some (.int (kn : Nat)), some (.int (1 + d))] ∧
          (upd H6 FF (.lst (xs ++ [v]))) FF = some (.lst xs') ∧ NdsV K (upd H6 FF (.lst (xs ++ [v]))) xs' ns' ∧ EL ns' ∧ But p H (upd H6 FF (.lst (xs ++ [v]))) ∧ Pot (upd H6 FF (.lst (xs ++ [v]))) p (c + 5 + 2 * ns'.length) := fun H6 v k ev hk b6 p6 => by
        refine ⟨xs ++ [v], ns ++ [.el k], by rw [List.length_append]; rfl, rfl, upd_same, (ndsV_els e3 e2).app (.one (by rw [ev]; exact .ofEl k)), e3.app hk, (e5.trans b6).wr nFH, ?_⟩
        refine (p6.oth nFp.symm).le ?_
        rw [List.length_append]
        simp
        omega
      have at5 : ∀ H6, But p H5 H6 → H6 FF = some (.lst xs) := fun H6 b6 => b6.at nFp e1
      refine ifs_any (fun b H' => H5 = H' ∧ (b = true → 1 + d ≤ ns.length)) (fun b H6 hS => ?_) (fun R hR => ?_)
      · obtain ⟨rfl, hb⟩ := hS
        cases b with
        | true =>
          have hb := hb rfl
          obtain ⟨n, hn⟩ := get_of (l := ns) (i := ns.length - (1 + d).toNat) (by omega)
          obtain ⟨u, eu, ku⟩ := e2.at hn
          obtain ⟨k, rfl, hk⟩ := e3 n (List.mem_of_getElem? hn)
          refine ⟨.ref FF, rfl, .inl ⟨rfl, _, .inl (.inl e1)⟩, .ref FF, rfl, .ref FF, rfl, FF, xs, rfl, .inl (.inl (.inl e1)), _, rfl, _, _, rfl, rfl, FF, xs, ((ns.length - (1 + d).toNat : Nat) : Int), u, rfl, int_congr (by omega), .inl (.inl e1), atI_nat eu, FF, _, _, rfl, rfl, e1, lx, fin H5 u k ku.el hk (.refl p H5) (e6.le (by omega))⟩
        | false =>
          refine ⟨_, rfl, rfl, _, rfl, ite2 (fun e => ?_) (fun e => ?_)⟩
          · have hb0 : (0 : Int) ≤ ((xs.length : Nat) : Int) * (1 + d) := Int.mul_nonneg (by omega) (by omega)
            refine ⟨.ref FF, rfl, .inl ⟨rfl, _, .inl (.inl e1)⟩, .ref FF, rfl, FF, xs, rfl, .inl (.inl (.inl e1)), _, rfl, _, _, rfl, rfl, .inl ⟨?_, ?_⟩, _, 1000000007, rfl, rfl, (show (0 : Int) < 1000000007 by decide), FF, _, _, rfl, rfl, e1, lx, fin H5 _ ((((xs.length : Nat) : Int) * (1 + d)) % 1000000007).toNat (int_congr ?_) ?_ (.refl p H5) (e6.le (by omega))⟩
            · omega
            · omega
            · exact (Int.toNat_of_nonneg (Int.emod_nonneg _ (by decide))).symm
            · have h2 : ((xs.length : Nat) : Int) * (1 + d) ≤ 200 * 7 := Int.mul_le_mul (by omega) (by omega) (by omega) (by decide)
              rw [Int.emod_eq_of_lt hb0 (by omega)]
              omega
          · refine ⟨_, rfl, rfl, _, rfl, ite2 (fun e => ?_) (fun e => ?_)⟩
            · refine ⟨.ref FF, rfl, .inl ⟨rfl, _, .inl (.inl e1)⟩, .ref p, rfl, 10, 9, rfl, rfl, ⟨by decide, by decide, by decide⟩, .ref p, rfl, 10, 9, rfl, rfl, ⟨by decide, by decide, by decide⟩, _, 1, rfl, rfl, p, _, _, rfl, e6, by omega, (by decide), (by decide +kernel), fun d5 H7 d50 d51 b7 p7 => ⟨(show 6 ≤ sizeLine from by decide), fun l6 n6 =>
                ⟨p, l6, _, _, rfl, p7.new n6, by omega, p7.ne n6, upd_same, List.cons_ne_nil _ _, (show 6 ≤ 1000 from by decide), fun j x H8 hj b8 p8 => ?_⟩⟩⟩
              have d51' : d5 < 1000000001 := d51
              have sm2 : Smalls (10 ^ 9) [V.int 0, .int 1, .int 12, .int 120, .int ((10 : Int) ^ (9 : Int).toNat), .int d5] :=
                .cons (n := 0) rfl (by decide) (.cons (n := 1) rfl (by decide) (.cons (n := 12) rfl (by decide) (.cons (n := 120) rfl (by decide) (.cons (n := 10 ^ 9) rfl (by decide) (.cons (n := d5.toNat) (int_congr (by omega)) (by omega) .nil)))))
              obtain ⟨k, rfl, hk⟩ := sm2.at hj
              have b58 := (b7.trans (.new n6)).trans b8
              exact ⟨FF, _, _, rfl, rfl, at5 _ b58, lx, fin H8 _ k rfl hk b58 (p8.le (by omega))⟩
            · refine ifs_any (fun b H' => Same H5 H' ∧ (b = true → ns ≠ [])) (fun b H6 hS => ?_) (fun R hR => ?_)
              · obtain ⟨s6, hb⟩ := hS
                have f6 := s6 _ _ e1
                have p6 : Pot H6 p (c + 5 + 2 * ns.length) := by
                  obtain ⟨o, ho, po⟩ := e6
                  exact ⟨o, s6 _ _ ho, po⟩
                have b56 : But p H5 H6 := Same.but s6
                cases b with
                | true =>
                  have hb := hb rfl
                  refine ⟨.ref FF, rfl, .inl ⟨rfl, _, .inl (.inl f6)⟩, .ref p, rfl, p, 3, _, rfl, p6, by omega, by decide, by decide +kernel, fun d6 H7 _ _ b7 p7 => ⟨d6, 0, rfl, rfl, _, rfl, ite2 (fun e => ?_) (fun e => ?_)⟩⟩
                  · rcases List.eq_nil_or_concat ns with rfl | ⟨init, z, rfl⟩
                    · exact absurd rfl hb
                    · rw [List.concat_eq_append] at *
                      obtain ⟨u, eu, ku⟩ := e2.last
                      obtain ⟨k, rfl, hk⟩ := e3 z (by simp)
                      have b57 := b56.trans b7
                      have f7 := at5 _ b57
                      exact ⟨.ref FF, rfl, 1, rfl, FF, xs, -1, u, rfl, rfl, .inl (.inl f7), eu, FF, _, _, rfl, rfl, f7, lx, fin H7 u k ku.el hk b57 (p7.le (by omega))⟩
                  · refine ⟨.ref p, rfl, _, rfl, p, (kn : Nat), _, rfl, p7, by omega, by omega, Int.lt_of_le_of_lt (show ((kn : Nat) : Int) ≤ 10 by omega) (by decide +kernel), fun d8 H8 d80 d81 b8 p8 => ?_⟩
                    have b58 := (b56.trans b7).trans b8
                    exact ⟨FF, _, _, rfl, rfl, at5 _ b58, lx, fin H8 _ d8.toNat (int_congr (by omega)) (by omega) b58 (p8.le (by omega))⟩
                | false =>
                  refine ⟨.ref FF, rfl, .inl ⟨rfl, _, .inl (.inl f6)⟩, .ref p, rfl, _, rfl, p, (kn : Nat), _, rfl, p6, by omega, by omega, Int.lt_of_le_of_lt (show ((kn : Nat) : Int) ≤ 10 by omega) (by decide +kernel), fun d8 H8 d80 d81 b8 p8 => ?_⟩
                  have b58 := b56.trans b8
                  exact ⟨FF, _, _, rfl, rfl, at5 _ b58, lx, fin H8 _ d8.toNat (int_congr (by omega)) (by omega) b58 (p8.le (by omega))⟩
              · refine ⟨_, rfl, rfl, _, rfl, ite2 (fun e => ?_) (fun e => hR _ _ ⟨Same.refl H5, fun z => nomatch z⟩)⟩
                refine ⟨.ref FF, rfl, (show 0 ≤ sizeLine from by decide), fun l9 hl9 => ⟨_, _, .lst (.inl (.inl (sameN hl9 _ _ e1))) (e2.up (.of (sameN hl9))), .lst (.inl (.inl upd_same)) .nil, (shaped_all e3.ok (by decide)).1, shaped_nil, _, rfl, hR _ _ ⟨sameN hl9, fun z => ?_⟩⟩⟩
                rintro rfl
                rw [eqv_emptyN] at z
                cases z
      · refine ⟨_, rfl, rfl, _, rfl, ite2 (fun e => ?_) (fun e => hR _ _ ⟨rfl, fun z => nomatch z⟩)⟩
        exact ⟨.ref FF, rfl, FF, xs, rfl, .inl (.inl (.inl e1)), _, rfl, _, _, rfl, rfl, _, rfl, hR _ _ ⟨rfl, fun z => by
          have := of_decide_eq_true z
          omega⟩⟩
    · exact ⟨_, rfl, q H5 FF xs ns e5 nFH e1 e2 e3 (by omega) (e6.le (by omega))⟩
end
theorem grp_more (ns : List Nd) (i : Nat) (n : Nd) (h : ns[i]? = some n) : grp (ns.take (i + 1)) = stepG (grp (ns.take i)) n := by
  rw [take_more h, grp_app]
section
variable {P : Program} {w : World} {K : PySem.W.Frag} {mg : Str → Option Value} {base : Heap}
theorem scLRuns : FnScope ["some", "found", "one"] ["some"] (defScope sLRuns) := ⟨rfl, rfl, rfl, by decide +kernel, rfl, by decide +kernel, by decide +kernel⟩
def spLRuns (K : PySem.W.Frag) : Sp := fun vs H Q _ => ∃ (a : Addr) (us : List V) (ns : List Nd) (l : Nat), vs = [.ref a] ∧ SqL K H a us ∧ NdsV K H us ns ∧ OkAll ns l ∧ l ≤ 20 ∧ ns.length ≤ 100000 ∧
  ∀ H' p ws, Same H H' → H' p = some (.tup ws) → PrsV K H' ws (grp ns) → Q (.ref p) H'
theorem ok_lruns {f : Addr} {fd : FuncData} {k : Nat} (F : Fun K "_law_runs" "_law_runs" sLRuns f fd) (mt : mg "tuple" = none) : FnOk P w K mg base CX0 (k + 1) f fd ["some"] (spLRuns K) := by
  refine F.ok scLRuns (fun vs H Q E h => ?_) (fun cdv A outer s H vs Q E hr h => ?_)
  · obtain ⟨a, us, ns, l, rfl, _⟩ := h
    rfl
  · obtain ⟨a, us, ns, l, rfl, hS, hn, ok, l20, hlen, q⟩ := h
    refine ⟨_, pss_cons (ps_set (i := 1) scLRuns.nd rfl (.inl rfl) (pe_lst pa_nil))
      (pss_cons (ps_for PassesOwn.never rfl (pi_list (pv 0)) (pg_name (i := 2) scLRuns.nd rfl (.inl rfl))
        (pss_one (ps_if (PW.pt (pw_and (pt_cmpR (op_neD hr.units) (pv 1) (pe_lst pa_nil) (nomark _)) (pw_and1 (pt_cmpR (op_eqD hr.units) (pe_ix ix_tup (pe_ix ix_list (pv 1) (pe_un un_neg pe_int) (fun _ _ => rfl)) pe_int (fun _ _ => rfl)) (pv 2) (nomark _)))))
          (pss_one (ps_asg (pe_tup (pa_cons (pv 2) (pa_cons (pe_op op_add (pe_ix ix_tup (pe_ix ix_list (pv 1) (pe_un un_neg pe_int) (fun _ _ => rfl)) pe_int (fun _ _ => rfl)) pe_int) pa_nil))) (pg_sub (pv 1) (pe_un un_neg pe_int) set_list)))
          (pss_one (ps_expr (pe_bm PySem.F.plainAttrs_list PySem.F.slot_list_append PySem.F.type_list_append mt_append (pv 1) (pa_cons (pe_tup (pa_cons (pv 2) (pa_cons pe_int pa_nil))) pa_nil)))))))
      (pss_one (ps_ret (pe_callTy call_tuple_of (by rfl) mt PyProof.Rows.boot_tuple (pa_cons (pv 1) pa_nil))))), ?_⟩
    have hlu := hn.len
    refine ⟨(show 0 ≤ sizeLine from by decide), fun F0 hF => ?_⟩
    have s0 := sameN (o := .lst []) hF
    refine ⟨.ref a, rfl, a, rfl, ⟨us, s0.seq hS⟩, ?_⟩
    refine for_list (xs := us) (fun i σ H' => ∃ ws y2, σ = [some (.ref a), some (.ref F0), y2] ∧ H' F0 = some (.lst ws) ∧ PrsV K H' ws (grp (ns.take i)) ∧ Same H H') ⟨[], none, rfl, upd_same, ?_, s0⟩ (fun i σ H' _ hp => ?_) (fun i x σ H1 hx hp => ?_) (fun σ H' hp => ?_)
    · rw [List.take_zero]
      exact .nil
    · obtain ⟨_, _, _, _, _, e⟩ := hp
      exact e.seq hS
    · obtain ⟨ws, y2, rfl, e1, e2, s1⟩ := hp
      obtain ⟨n, hni, kn⟩ := (hn.up (.of s1)).get hx
      have okn := ok.mem n (List.mem_of_getElem? hni)
      have okg : ∀ p ∈ grp (ns.take i), Ok p.1 l := fun p hp => ok.mem _ (List.mem_of_mem_take (grp_foot _ p hp).1)
      have lw : ws.length < sizeLine := by
        rw [DpAll.len e2, List.length_map]
        have g1 := grp_len (ns.take i)
        rw [List.length_take] at g1
        exact line5 (by omega)
      have gm := grp_more ns i n hni
      refine ifs_any (fun b H' => Same H1 H' ∧ (b = true → ∃ r c, grp (ns.take i) = r ++ [(n, c)]) ∧ (b = false → ∀ m c, (grp (ns.take i)).getLast? = some (m, c) → m ≠ n)) (fun b H2 hS2 => ?_) (fun R hR => ?_)
      · obtain ⟨s2, nb1, nb2⟩ := hS2
        have f2 := s2 _ _ e1
        have d2 := e2.up (.of s2)
        cases b with
        | true =>
          obtain ⟨r, c, er⟩ := nb1 rfl
          rw [er] at d2
          obtain ⟨w1, ra, u, rfl, k1, t1, t2⟩ := d2.split
          · skip
            refine ⟨x, rfl, .ref F0, rfl, 1, rfl, F0, _, -1, .ref ra, rfl, rfl, .inl (.inl f2), atI_last _ _, ra, _, 1, .int c, rfl, rfl, t1, rfl, c, 1, rfl, rfl, (show 2 ≤ sizeLine from by decide), fun t ht => ?_⟩
            have s3 := sameN (o := .tup [x, .int ((c : Int) + 1)]) ht
            have f3 := s3 _ _ f2
            refine ⟨.ref F0, rfl, 1, rfl, F0, w1 ++ [.ref ra], -1, w1.length, rfl, rfl, f3, ?_, w1 ++ [.ref t], _, rfl, ?_, ?_, sameW (s1.trans (s2.trans s3)) hF⟩
            · rw [List.length_append]
              exact ixN_last
            · rw [upd_same, List.set_append_right _ _ (Nat.le_refl _)]
              simp
            · rw [gm, er, stepG_eq]
              have tt : Tups K (upd H2 t (.tup [x, .int ((c : Int) + 1)])) (upd (upd H2 t (.tup [x, .int ((c : Int) + 1)])) F0 (.lst ((w1 ++ [V.ref ra]).set w1.length (V.ref t)))) := (But.set (p := F0)).tups f3
              refine PrsV.app (PrsV.up tt (PrsV.up (.of s3) k1)) (PrsV.one (p := (n, c + 1)) (tt _ _ (.inl (.inl ?_))) (((kn.up (.of s2)).up (.of s3)).up tt))
              rw [upd_same]
              exact congrArg (fun z => some (HO.tup [x, z])) (int_congr (by omega))
        | false =>
          have ne := stepG_ne (nb2 rfl)
          refine ⟨.ref F0, rfl, .inl ⟨rfl, _, .inl (.inl f2)⟩, x, rfl, (show 2 ≤ sizeLine from by decide), fun t ht => ?_⟩
          have s3 := sameN (o := .tup [x, .int 1]) ht
          have f3 := s3 _ _ f2
          refine ⟨F0, _, _, rfl, rfl, f3, lw, ws ++ [.ref t], _, rfl, upd_same, ?_, sameW (s1.trans (s2.trans s3)) hF⟩
          rw [gm, ne]
          have tt : Tups K (upd H2 t (.tup [x, .int 1])) (upd (upd H2 t (.tup [x, .int 1])) F0 (.lst (ws ++ [.ref t]))) := (But.set (p := F0)).tups f3
          exact PrsV.app (PrsV.up tt (PrsV.up (.of s3) d2)) (PrsV.one (p := (n, 1)) (tt _ _ (.inl (.inl upd_same))) (((kn.up (.of s2)).up (.of s3)).up tt))
      · refine ⟨.ref F0, rfl, (show 0 ≤ sizeLine from by decide), fun l9 hl9 => ⟨_, _, .lst (.inl (.inl ?_)) (e2.up (.of (sameN hl9))), .lst (.inl (.inl upd_same)) .nil, shaped_prs okg l20, shaped_nil, _, rfl, ?_⟩⟩
        · rw [upd_ne (ne_of_none e1 hl9)]
          exact e1
        · rw [eqv_emptyP]
          have s9 := sameN (o := .lst []) hl9
          rcases List.eq_nil_or_concat (grp (ns.take i)) with z | ⟨init, ⟨m, c⟩, z⟩
          · rw [z]
            exact hR _ _ ⟨s9, (fun z => nomatch z), fun _ m c hm => by rw [z] at hm; cases hm⟩
          · rw [List.concat_eq_append] at z
            have d9 := e2.up (.of s9)
            rw [z] at d9
            obtain ⟨w1, ra, u, rfl, k1, t1, t2⟩ := d9.split
            · skip
              have okm : Ok m l := okg (m, c) (by rw [z]; simp)
              have z0 : (grp (ns.take i)).isEmpty = false := by rw [z]; simp
              rw [z0]
              refine ⟨.ref F0, rfl, 1, rfl, F0, _, -1, .ref ra, rfl, rfl, .inl (.inl (s9 _ _ e1)), atI_last _ _, ra, _, 0, u, rfl, rfl, t1, rfl, x, rfl, _, _, t2, kn.up (.of s9), shaped_dat okm l20, shaped_dat okn l20, _, rfl, hR _ _ ⟨s9, fun eb => ?_, fun eb m' c' hm => ?_⟩⟩
              · have : m = n := (eqv_dat _ _).mp eb
                exact ⟨init, c, by rw [z, this]⟩
              · rw [z, List.getLast?_append] at hm
                have : m = m' ∧ c = c' := by simpa using hm
                rw [← this.1]
                intro eq
                rw [eqv_yes eq] at eb
                cases eb
    · obtain ⟨ws, y2, rfl, e1, e2, s1⟩ := hp
      rw [hlu, List.take_length] at e2
      exact ⟨.ref F0, rfl, F0, ws, rfl, .inl ⟨.inl (.inl e1), fun t nt => q _ t ws (s1.trans (sameN nt)) upd_same (PrsV.up (.of (sameN nt)) e2)⟩⟩
end
/-! ### runs of any width -/
section
variable {P : Program} {w : World} {K : PySem.W.Frag} {mg : Str → Option Value} {base : Heap}
/-- pairs of runs -/
def Giv (gs : List (Nd × Nat)) : Prop := (∀ p ∈ gs, (∃ k : Nat, p.1 = .el k ∧ k ≤ 10 ^ 9) ∧ 1 ≤ p.2 ∧ p.2 ≤ 10 ^ 18) ∧ ∀ (i : Nat) p q, gs[i]? = some p → gs[i + 1]? = some q → p.1 ≠ q.1
theorem stepG_unl {acc : List (Nd × Nat)} {n : Nd} (h : ∀ (i : Nat) p q, acc[i]? = some p → acc[i + 1]? = some q → p.1 ≠ q.1) : ∀ (i : Nat) p q, (stepG acc n)[i]? = some p → (stepG acc n)[i + 1]? = some q → p.1 ≠ q.1 := by
  intro i p q hp hq
  rcases List.eq_nil_or_concat acc with rfl | ⟨r, ⟨m, c⟩, rfl⟩
  · rw [stepG_ne (fun m c hm => by cases hm)] at hq
    simp at hq
  · rw [List.concat_eq_append] at *
    by_cases e : m = n
    · subst e
      rw [stepG_eq] at hp hq
      by_cases c1 : i + 1 < r.length
      · rw [List.getElem?_append_left (by omega)] at hp hq
        exact h i p q (by rw [List.getElem?_append_left (by omega)]; exact hp) (by rw [List.getElem?_append_left c1]; exact hq)
      · by_cases c2 : i + 1 = r.length
        · rw [List.getElem?_append_left (by omega)] at hp
          rw [List.getElem?_append_right (by omega), show i + 1 - r.length = 0 by omega] at hq
          have hq := Option.some.inj hq
          have := h i p (m, c) (by rw [List.getElem?_append_left (by omega)]; exact hp) (by rw [List.getElem?_append_right (by omega), show i + 1 - r.length = 0 by omega]; rfl)
          rw [← hq]
          exact this
        · rw [List.getElem?_eq_none_iff.mpr (by simp; omega)] at hq
          cases hq
    · rw [stepG_ne (fun m' c' hm => by
        rw [List.getLast?_append] at hm
        have : m = m' ∧ c = c' := by simpa using hm
        rw [← this.1]
        exact e)] at hp hq
      by_cases c1 : i + 1 < (r ++ [(m, c)]).length
      · rw [List.getElem?_append_left (by omega)] at hp
        rw [List.getElem?_append_left c1] at hq
        exact h i p q hp hq
      · by_cases c2 : i + 1 = (r ++ [(m, c)]).length
        · rw [List.getElem?_append_left (by omega)] at hp
          rw [List.getElem?_append_right (by omega), show i + 1 - (r ++ [(m, c)]).length = 0 by omega] at hq
          have hq := Option.some.inj hq
          rw [List.length_append] at c2
          rw [List.getElem?_append_right (by simp at c2; omega), show i - r.length = 0 by simp at c2; omega] at hp
          have hp := Option.some.inj hp
          rw [← hp, ← hq]
          exact e
        · rw [List.getElem?_eq_none_iff.mpr (by rw [List.length_append]; simp at c1 c2 ⊢; omega)] at hq
          cases hq
theorem grp_unl : ∀ (k : Nat) (ns : List Nd), ns.length = k → ∀ (i : Nat) p q, (grp ns)[i]? = some p → (grp ns)[i + 1]? = some q → p.1 ≠ q.1
  | 0, ns, e, i, p, q, hp, _ => by
    rw [List.eq_nil_of_length_eq_zero e] at hp
    unfold grp at hp
    simp at hp
  | k + 1, ns, e, i, p, q, hp, hq => by
    rcases List.eq_nil_or_concat ns with rfl | ⟨r, n, rfl⟩
    · simp at e
    · rw [List.concat_eq_append] at *
      rw [grp_app] at hp hq
      exact stepG_unl (grp_unl k r (by simpa using e)) i p q hp hq
theorem giv_grp {ns : List Nd} (h : EL ns) (l : ns.length ≤ 200) : Giv (grp ns) := ⟨fun p hp => by
  obtain ⟨h1, h2, h3⟩ := grp_foot ns p hp
  exact ⟨h p.1 h1, h2, Nat.le_trans h3 (Nat.le_trans l (by decide))⟩, grp_unl _ ns rfl⟩
end
section
variable {P : Program} {w : World} {K : PySem.W.Frag} {mg : Str → Option Value} {base : Heap}
theorem scWide : FnScope ["pot", "most", "found", "one", "count"] ["pot", "most"] (defScope sWide) := ⟨rfl, rfl, rfl, by decide +kernel, rfl, by decide +kernel, by decide +kernel⟩
def spWide (K : PySem.W.Frag) : Sp := fun vs H Q _ => ∃ (p : Addr) (most c : Nat), vs = [.ref p, .int most] ∧ most ≤ 200 ∧ Pot H p c ∧ c < 700000 ∧
  ∀ H' a ws gs, But p H H' → H a = none → H' a = some (.tup ws) → PrsV K H' ws gs → Giv gs → gs.length ≤ most → Pot H' p (c + 1000) → Q (.ref a) H'
theorem prs_up {p : Addr} {c : Nat} {H H' : Hp} {gs : List (Nd × Nat)} {ws : List V} (e : But p H H') (hp : Pot H p c) (h : PrsV K H ws gs) : PrsV K H' ws gs := PrsV.up (e.tupsP hp) h
theorem ok_wide {f fT fO fS fR : Addr} {fd dT dO dS dR : FuncData} (F : Fun K "_law_wide" "_law_wide" sWide f fd) (T : Fun K "_law_take" "_law_take" sTake fT dT) (gT : mg "_law_take" = some (.ref fT)) (bT : Binds K dT ["pot", "bound"] [])
    (O : Fun K "_law_of" "_law_of" sOf fO dO) (gO : mg "_law_of" = some (.ref fO)) (bO : Binds K dO ["pot", "some"] []) (S : Fun K "_law_sequence" "_law_sequence" sSeq fS dS) (gS : mg "_law_sequence" = some (.ref fS)) (bS : Binds K dS ["pot", "most"] [])
    (R : Fun K "_law_runs" "_law_runs" sLRuns fR dR) (gR : mg "_law_runs" = some (.ref fR)) (bR : Binds K dR ["some"] []) (ml : mg "len" = none) (mt : mg "tuple" = none) : FnOk P w K mg base CX0 4 f fd ["pot", "most"] (spWide K) := by
  have GT : FnOk P w K mg base CX0 2 fT dT ["pot", "bound"] spTake := ok_take T
  have GO : FnOk P w K mg base CX0 2 fO dO ["pot", "some"] spOf := ok_of O T gT bT ml
  have GS : FnOk P w K mg base CX0 3 fS dS ["pot", "most"] (spSeq K) := ok_seq S T gT bT O gO bO ml
  have GR : FnOk P w K mg base CX0 3 fR dR ["some"] (spLRuns K) := ok_lruns R mt
  refine F.ok scWide (fun vs H Q E h => ?_) (fun cdv A outer s H vs Q E hr h => ?_)
  · obtain ⟨p, most, c, rfl, _⟩ := h
    rfl
  · obtain ⟨p, most, c, rfl, hm, hp, hc, q⟩ := h
    have r2 := hr.mono (j := 2) (by omega)
    refine ⟨_, pss_cons (ps_set (i := 2) scWide.nd rfl (.inl rfl) (pe_lst pa_nil))
      (pss_cons (ps_for PassesOwn.never rfl (pi_tup (pe_call GR hr (by rfl) gR R.kp bR .nil pass0 (pa_cons (pe_call GS hr (by rfl) gS S.kp bS .nil pass0 (pa_cons (pv 0) (pa_cons (pv 1) pa_nil))) pa_nil)))
          (pg_tup rfl (pgs_cons (pg_name (i := 3) scWide.nd rfl (.inl rfl)) (pgs_cons (pg_name (i := 4) scWide.nd rfl (.inl rfl)) pgs_nil)))
        (pss_one (ps_expr (pe_bm PySem.F.plainAttrs_list PySem.F.slot_list_append PySem.F.type_list_append mt_append (pv 2) (pa_cons (pe_tup (pa_cons (pv 3) (pa_cons (pe_call GO r2 (by rfl) gO O.kp bO .nil pass0 (pa_cons (pv 0)
          (pa_cons (pe_lst (pa_cons (pv 4) (pa_cons (pv 4) (pa_cons pe_int (pa_cons pe_int (pa_cons pe_int (pa_cons (pe_op op_pow pe_int pe_int)
            (pa_cons (pe_op op_add pe_int (pe_call GT r2 (by rfl) gT T.kp bT .nil pass0 (pa_cons (pv 0) (pa_cons (pe_op op_pow pe_int pe_int) pa_nil)))) pa_nil)))))))) pa_nil))) pa_nil))) pa_nil)))))
      (pss_one (ps_ret (pe_callTy call_tuple_of (by rfl) mt PyProof.Rows.boot_tuple (pa_cons (pv 2) pa_nil))))), ?_⟩
    refine ⟨(show 0 ≤ sizeLine from by decide), fun FF nF => ?_⟩
    have nFp := hp.ne nF
    refine ⟨.ref p, rfl, _, rfl, p, most, c, rfl, hm, hp.new nF, by omega, fun H1 a xs ns b1 na ha kn eln ln p1 => ?_⟩
    have l2 : ns.length ≤ 200 := by omega
    refine ⟨a, xs, ns, 0, rfl, .inl (.inl ha), kn, eln.ok, by decide, by omega, fun H2 rt ws s2 hrt kP => ?_⟩
    have giv := giv_grp eln l2
    have lg := grp_len ns
    generalize grp ns = gs at kP giv lg
    have f1 := b1.at nFp upd_same
    have f2 := s2 _ _ f1
    have p2 : Pot H2 p (c + 500) := by
      obtain ⟨o, ho, po⟩ := p1
      exact ⟨o, s2 _ _ ho, po⟩
    have b02 : But p H H2 := ((But.new nF).trans b1).trans (Same.but s2)
    refine ⟨rt, rfl, ⟨ws, .inl (.inl hrt)⟩, ?_⟩
    refine for_tup (xs := ws) (fun i σ H' => ∃ (y3 y4 : Option V) (vs' : List V) (hs : List (Nd × Nat)), σ = [some (.ref p), some (.int most), some (.ref FF), y3, y4] ∧ H' FF = some (.lst vs') ∧ PrsV K H' vs' hs ∧ hs.length = i ∧
        (∀ (j : Nat) (x y : Nd × Nat), hs[j]? = some x → gs[j]? = some y → x.1 = y.1) ∧ (∀ x ∈ hs, 1 ≤ x.2 ∧ x.2 ≤ 10 ^ 18) ∧ But p H H' ∧ Tups K H2 H' ∧ Pot H' p (c + 500 + 2 * i))
      ⟨none, none, [], [], rfl, f2, .nil, rfl, (fun j x y h => by simp at h), (fun x h => nomatch h), b02, .refl, p2⟩ (fun i σ H' _ hp' => ?_) (fun i u σ H3 hu hp' => ?_) (fun σ H' hp' => ?_)
    · obtain ⟨_, _, _, _, _, _, _, _, _, _, _, tp, _⟩ := hp'
      exact tp _ _ (.inl (.inl hrt))
    · obtain ⟨y3, y4, vs', hs, rfl, g1, g2, g3, g4, g5, g6, tp, p3⟩ := hp'
      obtain ⟨pr, ra, v, hpi, rfl, t1, t2⟩ := (PrsV.up tp kP).get hu
      have hil := (List.getElem?_eq_some_iff.mp hpi).1
      obtain ⟨⟨e0, ee, _⟩, c1, c2⟩ := giv.1 pr (List.mem_of_getElem? hpi)
      refine ⟨ra, _, rfl, t1, rfl, v, _, rfl, _, [], rfl, rfl, ?_⟩
      refine ⟨.ref FF, rfl, .inl ⟨rfl, _, .inl (.inl g1)⟩, v, rfl, .ref p, rfl, _, rfl, _, rfl, 10, 18, rfl, rfl, ⟨by decide, by decide, by decide⟩, .ref p, rfl, 10, 18, rfl, rfl, ⟨by decide, by decide, by decide⟩, p, _, _, rfl, p3, by omega, (by decide), (by decide +kernel), fun d H4 d0 d1 b4 p4 => ⟨1, d, rfl, rfl,
        (show 7 ≤ sizeLine from by decide), fun l6 n6 => ⟨p, l6, _, _, rfl, p4.new n6, by omega, p4.ne n6, upd_same, List.cons_ne_nil _ _, (show 7 ≤ 1000 from by decide), fun j x H5 hj b5 p5 => ⟨(show 2 ≤ sizeLine from by decide), fun t7 n7 => ?_⟩⟩⟩⟩
      have d1' : d < (10 : Int) ^ 18 := d1
      obtain ⟨k, rfl, k1, k2⟩ : ∃ k : Nat, x = .int k ∧ 1 ≤ k ∧ k ≤ 10 ^ 18 := by
        have := List.mem_of_getElem? hj
        simp only [List.mem_cons, List.not_mem_nil, or_false] at this
        rcases this with rfl | rfl | rfl | rfl | rfl | rfl | rfl
        · exact ⟨pr.2, rfl, c1, c2⟩
        · exact ⟨pr.2, rfl, c1, c2⟩
        · exact ⟨1, rfl, by decide, by decide⟩
        · exact ⟨2, rfl, by decide, by decide⟩
        · exact ⟨10, rfl, by decide, by decide⟩
        · exact ⟨10 ^ 18, rfl, by decide, by decide⟩
        · exact ⟨1 + d.toNat, int_congr (by omega), by omega, by omega⟩
      have b35 := (b4.trans (.new n6)).trans b5
      have s7 := sameN (o := .tup [v, .int (k : Nat)]) n7
      have b37 := b35.trans (Same.but s7)
      have gF7 := b37.at nFp g1
      have tp7 : Tups K H3 (upd H5 t7 (.tup [v, .int (k : Nat)])) := b37.tupsP p3
      have t9 : Tups K (upd H5 t7 (.tup [v, .int (k : Nat)])) (upd (upd H5 t7 (.tup [v, .int (k : Nat)])) FF (.lst (vs' ++ [.ref t7]))) := (But.set (p := FF)).tups gF7
      have lv : vs'.length = hs.length := PrsV.len g2
      refine ⟨FF, _, _, rfl, rfl, gF7, line5 (by omega), _, _, vs' ++ [.ref t7], hs ++ [(pr.1, k)], rfl, upd_same, ?_, by rw [List.length_append, g3]; rfl, fun jj x y hx hy => ?_, fun x hx => ?_, (g6.trans b37).wr nF, (tp.trans tp7).trans t9, ?_⟩
      · exact (PrsV.up t9 (PrsV.up tp7 g2)).app (PrsV.one (p := (pr.1, k)) (t9 _ _ (.inl (.inl upd_same))) ((t2.up tp7).up t9))
      · by_cases c3 : jj < hs.length
        · rw [List.getElem?_append_left c3] at hx
          exact g4 jj x y hx hy
        · by_cases c4 : jj = hs.length
          · rw [List.getElem?_append_right (by omega), c4, Nat.sub_self] at hx
            have hx := Option.some.inj hx
            rw [c4, g3, hpi] at hy
            rw [← hx, ← Option.some.inj hy]
          · rw [List.getElem?_eq_none_iff.mpr (by simp; omega)] at hx
            cases hx
      · rcases List.mem_append.mp hx with hx | hx
        · exact g5 x hx
        · rw [List.mem_singleton.mp hx]
          exact ⟨k1, k2⟩
      · obtain ⟨o, ho, po⟩ := p5
        exact ⟨o, by rw [upd_ne nFp.symm]; exact s7 _ _ ho, po.le (by omega)⟩
    · obtain ⟨y3, y4, vs', hs, rfl, g1, g2, g3, g4, g5, g6, tp, p3⟩ := hp'
      have lw := PrsV.len kP
      rw [lw] at g3 p3
      refine ⟨.ref FF, rfl, FF, vs', rfl, .inl ⟨.inl (.inl g1), fun t nt => q _ t vs' hs (g6.trans (.new nt)) (g6.freeP p3 nt) upd_same (PrsV.up (.of (sameN nt)) g2) ⟨fun x hx => ?_, fun i x y hx hy => ?_⟩ (by omega) ((p3.new nt).le (by omega))⟩⟩
      · obtain ⟨i, hi⟩ := List.getElem?_of_mem hx
        obtain ⟨y, hy⟩ := get_of (l := gs) (i := i) (by have := (List.getElem?_eq_some_iff.mp hi).1; omega)
        rw [g4 i x y hi hy]
        exact ⟨(giv.1 y (List.mem_of_getElem? hy)).1, g5 x hx⟩
      · have i1 := (List.getElem?_eq_some_iff.mp hy).1
        obtain ⟨x', hx'⟩ := get_of (l := gs) (i := i) (by omega)
        obtain ⟨y', hy'⟩ := get_of (l := gs) (i := i + 1) (by omega)
        rw [g4 i x x' hx hx', g4 (i + 1) y y' hy hy']
        exact giv.2 i x' y' hx' hy'
end

end C64

set_option Elab.async false
set_option linter.all false
set_option maxRecDepth 100000
namespace C64
open PySem PySem.Spec PyProof.Rows L2 Loc RZ
/-! ### marks, peaks, cuts, blocks -/
def rd : Nat → List Nat → List Nat
  | 0, l => l
  | i + 1, l => M07.round (rd i l)
theorem rd_len : ∀ i l, (rd i l).length = l.length
  | 0, _ => rfl
  | i + 1, l => by rw [rd, M07.round_length, rd_len i l]
theorem rd_unl : ∀ i l, M07.Unl l → M07.Unl (rd i l)
  | 0, _, h => h
  | i + 1, l, h => M07.round_unl _ (rd_unl i l h)
def mrk (ns : List Nd) : List Nat := rd 4 (fms (ns.map cd))
theorem mrk_len (ns : List Nd) : (mrk ns).length = ns.length := by
  unfold mrk
  rw [rd_len, fms_length, List.length_map]
def tops (ns : List Nd) : List Nat := M10.pks (mrk ns)
/-- the piece of a row -/
def pce (ns : List Nd) (z : Nat × Nat) : List Nd := (ns.take z.2).drop z.1
def pieces (ns : List Nd) : List (Nat × Nat) := M10.pcs ns.length (tops ns)
theorem gap_row {ns : List Nd} (h : 2 ≤ ns.length) : M10.Gap ns.length 0 (tops ns) := by
  have := M10.pks_gap (ms := mrk ns) (by rw [mrk_len]; exact h)
  rw [mrk_len] at this
  exact this
theorem pieces_cont {ns : List Nd} (h : 2 ≤ ns.length) : M10.Cont 0 ns.length (pieces ns) := M10.sts_cont (gap_row h)
section
variable {P : Program} {w : World} {K : PySem.W.Frag} {mg : Str → Option Value} {base : Heap}
theorem scMarks : FnScope ["row", "some", "_"] ["row"] (defScope sMarks) := ⟨rfl, rfl, rfl, by decide +kernel, rfl, by decide +kernel, by decide +kernel⟩
theorem scPeaks : FnScope ["row", "some", "places", "place"] ["row"] (defScope sPeaks) := ⟨rfl, rfl, rfl, by decide +kernel, rfl, by decide +kernel, by decide +kernel⟩
theorem scCuts : FnScope ["row", "tops", "begins", "ends", "places", "begin", "end"] ["row"] (defScope sCuts) := ⟨rfl, rfl, rfl, by decide +kernel, rfl, by decide +kernel, by decide +kernel⟩
theorem scBlocks : FnScope ["row", "begins", "ends", "begin", "end"] ["row"] (defScope sBlocks) := ⟨rfl, rfl, rfl, by decide +kernel, rfl, by decide +kernel, by decide +kernel⟩
/-- a row of nodes -/
def RowV (K : PySem.W.Frag) (m : Nat) (H : Hp) (a : Addr) (ns : List Nd) : Prop := ∃ us l, SqT K H a us ∧ NdsV K H us ns ∧ OkAll ns l ∧ Unb ns ∧ wide l ≤ 1000000 ∧ (∀ n ∈ ns, ht n < m) ∧ 2 ≤ ns.length ∧ ns.length ≤ 100000
theorem RowV.same {m : Nat} {H H' : Hp} {a : Addr} {ns : List Nd} (h : RowV K m H a ns) (s : Same H H') : RowV K m H' a ns := by
  obtain ⟨us, l, h1, h2, h3⟩ := h
  exact ⟨us, l, sameT s h1, h2.up (.of s), h3⟩
theorem RowV.at {m : Nat} {H : Hp} {a : Addr} {ns : List Nd} (h : RowV K m H a ns) : ∃ us, SqT K H a us ∧ us.length = ns.length ∧ 2 ≤ ns.length ∧ ns.length ≤ 100000 := by
  obtain ⟨us, l, h1, h2, _, _, _, _, h3, h4⟩ := h
  exact ⟨us, h1, h2.len, h3, h4⟩
def spMarks (K : PySem.W.Frag) (m : Nat) : Sp := fun vs H Q _ => ∃ (a : Addr) (ns : List Nd), vs = [.ref a] ∧ RowV K m H a ns ∧ ∀ H' p, Same H H' → SqT K H' p (vN (mrk ns)) → Q (.ref p) H'
def spPeaks (K : PySem.W.Frag) (m : Nat) : Sp := fun vs H Q _ => ∃ (a : Addr) (ns : List Nd), vs = [.ref a] ∧ RowV K m H a ns ∧ ∀ H' p, Same H H' → SqT K H' p (vN (tops ns)) → Q (.ref p) H'
def spCuts (K : PySem.W.Frag) (m : Nat) : Sp := fun vs H Q _ => ∃ (a : Addr) (ns : List Nd), vs = [.ref a] ∧ RowV K m H a ns ∧ ∀ H' p, Same H H' → SqT K H' p (vN ((pieces ns).map (·.1))) → Q (.ref p) H'
def spBlocks (K : PySem.W.Frag) (m : Nat) : Sp := fun vs H Q _ => ∃ (a : Addr) (ns : List Nd), vs = [.ref a] ∧ RowV K m H a ns ∧
  ∀ H' p us, Same H H' → SqT K H' p us → NdsV K H' us ((pieces ns).map fun z => Nd.blk (pce ns z)) → Q (.ref p) H'
theorem ok_marks {f g h' : Addr} {fd gd hd : FuncData} {m : Nat} (F : Fun K "marks" "marks" sMarks f fd) (G : FnOk P w K mg base CX0 (m + 3) g gd ["row"] (spFirst K m)) (G' : Fun K "first_marks" "first_marks" sFirst g gd) (gG : mg "first_marks" = some (.ref g)) (bG : Binds K gd ["row"] [])
    (N : FnOk P w K mg base CX0 2 h' hd ["some"] (spNext K)) (N' : Fun K "next_marks" "next_marks" sNext h' hd) (gN : mg "next_marks" = some (.ref h')) (bN : Binds K hd ["some"] []) (mr : mg "range" = none) : FnOk P w K mg base CX0 (m + 4) f fd ["row"] (spMarks K m) := by
  refine F.ok scMarks (fun vs H Q E h => ?_) (fun cdv A outer s H vs Q E hr h => ?_)
  · obtain ⟨a, ns, rfl, _⟩ := h
    rfl
  · obtain ⟨a, ns, rfl, ⟨us, l, hT, hN, ok, un, hw, hh, h2, hl⟩, q⟩ := h
    have r2 := hr.mono (j := 2) (by omega)
    refine ⟨_, pss_cons (ps_set (i := 1) scMarks.nd rfl (.inl rfl) (pe_call G hr (by rfl) gG G'.kp bG .nil pass0 (pa_cons (pv 0) pa_nil)))
      (pss_cons (ps_for PassesOwn.never rfl (pi_range1 (by rfl) mr (pa_cons pe_int pa_nil)) (pg_name (i := 2) scMarks.nd rfl (.inl rfl))
        (pss_one (ps_set (i := 1) scMarks.nd rfl (.inl rfl) (pe_call N r2 (by rfl) gN N'.kp bN .nil pass0 (pa_cons (pv 1) pa_nil)))))
      (pss_one (ps_ret (pv 1)))), ?_⟩
    refine ⟨.ref a, rfl, a, us, ns, l, rfl, hT, hN, ok, hw, hh, hl, fun H1 p s1 hp => ?_⟩
    have u0 : M07.Unl (fms (ns.map cd)) := fms_unl _ (cds_sgs ns) (unlT_of ok un)
    refine ⟨4, rfl, by decide, by decide, ?_⟩
    refine for_range (fun i σ H' => ∃ p y2, σ = [some (.ref a), some (.ref p), y2] ∧ SqT K H' p (vN (rd i (fms (ns.map cd)))) ∧ Same H H') ⟨p, none, rfl, .inl (.inl hp), s1⟩ (fun i σ H2 hi hp => ?_) (fun σ H' hp => ?_)
    · obtain ⟨p, y2, rfl, hp, s2⟩ := hp
      refine ⟨.ref p, rfl, p, _, rfl, hp, rd_unl i _ u0, ?_, fun H3 p3 s3 h3 => ⟨p3, _, rfl, .inl (.inl h3), s2.trans s3⟩⟩
      rw [rd_len, fms_length, List.length_map]
      exact hl
    · obtain ⟨p, y2, rfl, hp, s2⟩ := hp
      exact ⟨_, rfl, q _ _ s2 hp⟩
theorem freeS {H H' : Hp} {a : Addr} (s : Same H H') (h : H' a = none) : H a = none := by
  cases z : H a with
  | none => rfl
  | some u =>
    rw [s _ _ z] at h
    cases h
theorem range'_more (s n : Nat) : List.range' s (n + 1) = List.range' s n ++ [s + n] := by
  rw [List.range'_concat]
  simp
theorem ok_peaks {f g : Addr} {fd gd : FuncData} {m : Nat} (F : Fun K "peaks" "peaks" sPeaks f fd) (G : FnOk P w K mg base CX0 (m + 4) g gd ["row"] (spMarks K m)) (G' : Fun K "marks" "marks" sMarks g gd) (gG : mg "marks" = some (.ref g)) (bG : Binds K gd ["row"] [])
    (mr : mg "range" = none) (ml : mg "len" = none) (mt : mg "tuple" = none) : FnOk P w K mg base CX0 (m + 5) f fd ["row"] (spPeaks K m) := by
  refine F.ok scPeaks (fun vs H Q E h => ?_) (fun cdv A outer s H vs Q E hr h => ?_)
  · obtain ⟨a, ns, rfl, _⟩ := h
    rfl
  · obtain ⟨a, ns, rfl, hR, q⟩ := h
    refine ⟨_, pss_cons (ps_set (i := 1) scPeaks.nd rfl (.inr rfl) (pe_call G hr (by rfl) gG G'.kp bG .nil pass0 (pa_cons (pv 0) pa_nil)))
      (pss_cons (ps_set (i := 2) scPeaks.nd rfl (.inl rfl) (pe_callTy cr_range2 (by rfl) mr (by decide +kernel) (pa_cons pe_int (pa_cons (pe_op op_sub (pe_callB call_len_seq (by rfl) ml PySem.boot_len (pa_cons (pv 0) pa_nil)) pe_int) pa_nil))))
      (pss_one (ps_ret (pe_callTy call_tuple_of (by rfl) mt PyProof.Rows.boot_tuple (pa_cons (pe_lc (own := [("place", 3)]) (g := gName 3)
        (tt := tTest (tChain (rI0 fun i j => .bl (decide (i < j))) (rI0 fun i j => .bl (decide (j < i))) (tOp (rIxT K) (tVar 1) (tOp (rI0 fun i j => .int (i - j)) (tVar 3) (tC (.int 1)))) (tOp (rIxT K) (tVar 1) (tVar 3)) (tOp (rIxT K) (tVar 1) (tOp (rI0 fun i j => .int (i + j)) (tVar 3) (tC (.int 1))))))
        rfl scPeaks.nd (pi_rngV (pv 2)) (blkOk_by (N := ["row", "some", "places", "place"]) (sc := defScope sPeaks) (by decide +kernel))
        (fun _ _ _ _ _ => pg_name (i := 3) scPeaks.nd rfl (Or.inl rfl))
        (fun _ _ _ _ _ => pts_one (pt_chain op_lt op_gt (pe_ix ix_tup (pv 1) (pe_op op_sub (pv 3) pe_int) (fun _ _ => rfl)) (pe_ix ix_tup (pv 1) (pv 3) (fun _ _ => rfl)) (pe_ix ix_tup (pv 1) (pe_op op_add (pv 3) pe_int) (fun _ _ => rfl))))
        (fun _ _ _ _ _ => pv 3)) pa_nil))))), ?_⟩
    refine ⟨.ref a, rfl, a, ns, rfl, hR, fun H1 p s1 hp => ?_⟩
    obtain ⟨us, hT, hlu, h2, hl⟩ := (hR.same s1).at
    refine ⟨.ref a, rfl, a, us, rfl, .inr hT, _, _, rfl, rfl, 2, _, rfl, fun r nr => ?_⟩
    have lm := mrk_len ns
    have sR := sameN (o := .rng 2 (((us.length : Nat) : Int) - 1)) nr
    refine ⟨.ref r, rfl, r, 2, _, rfl, upd_same, ⟨by decide, by decide, by omega, by omega⟩, fun D nD => ?_⟩
    have n0 : ((((us.length : Nat) : Int) - 1) - 2).toNat = ns.length - 3 := by omega
    refine lc_range (fun i H' => H' D = some (.lst (vN ((List.range' 2 i).filter (M10.pk (mrk ns))))) ∧ Same H1 H') ⟨upd_same, sR.trans (sameN nD)⟩ (fun i H' hi hp' => ?_) (fun H' hp' => ?_)
    · obtain ⟨gD, sD⟩ := hp'
      rw [n0] at hi
      have pM := sameT sD hp
      obtain ⟨x, hx⟩ := get_of (l := mrk ns) (i := i + 1) (by omega)
      obtain ⟨y, hy⟩ := get_of (l := mrk ns) (i := i + 2) (by omega)
      obtain ⟨z, hz⟩ := get_of (l := mrk ns) (i := i + 3) (by omega)
      have ek : M10.pk (mrk ns) (2 + i) = (decide (x < y) && decide (z < y)) := by
        unfold M10.pk
        rw [show 2 + i - 1 = i + 1 by omega, show 2 + i = i + 2 by omega, hx, hy, show i + 2 + 1 = i + 3 by omega, hz]
      refine ⟨rfl, ?_⟩
      refine ⟨.ref p, rfl, _, rfl, _, 1, rfl, rfl, p, _, ((i + 1 : Nat) : Int), .int x, rfl, int_congr (by omega), pM, atI_nat (vN_get hx), .ref p, rfl, _, rfl, p, _, ((i + 2 : Nat) : Int), .int y, rfl, int_congr (by omega), pM, atI_nat (vN_get hy), x, y, rfl, rfl, _, rfl, ?_⟩
      have keep : (decide (x < y) && decide (z < y)) = false → H' D = some (.lst (vN ((List.range' 2 (i + 1)).filter (M10.pk (mrk ns))))) ∧ Same H1 H' := fun e => by
        rw [range'_more, List.filter_append, List.filter_cons_of_neg (by rw [ek, e]; simp), List.filter_nil, List.append_nil]
        exact ⟨gD, sD⟩
      refine ite2 (fun e => ?_) (fun e => ?_)
      · have e1 : x < y := by
          have := of_decide_eq_true e
          omega
        refine ⟨.ref p, rfl, _, rfl, _, 1, rfl, rfl, p, _, ((i + 3 : Nat) : Int), .int z, rfl, int_congr (by omega), pM, atI_nat (vN_get hz), y, z, rfl, rfl, _, rfl, ite2 (fun e2 => ?_) (fun e2 => ?_)⟩
        · have e3 : z < y := by
            have := of_decide_eq_true e2
            omega
          refine ⟨_, rfl, _, gD, ?_, ?_, sameW sD (freeS sR nD)⟩
          · rw [vN_len]
            refine line5 (Nat.le_trans (List.length_filter_le _ _) ?_)
            rw [List.length_range']
            omega
          · rw [upd_same, range'_more, List.filter_append, List.filter_cons_of_pos (by rw [ek, decide_eq_true e1, decide_eq_true e3]; rfl), List.filter_nil, vN_app]
            exact congrArg (fun z => some (HO.lst (_ ++ [z]))) (int_congr (by omega))
        · refine keep ?_
          have e3 : ¬ z < y := fun c => e2 (decide_eq_true (by omega))
          rw [decide_eq_false e3, Bool.and_false]
      · refine ⟨_, rfl, iteF (keep ?_)⟩
        have e3 : ¬ x < y := fun c => e (decide_eq_true (by omega))
        rw [decide_eq_false e3, Bool.false_and]
    · obtain ⟨gD, sD⟩ := hp'
      rw [n0] at gD
      refine ⟨D, _, rfl, .inl ⟨.inl (.inl gD), fun t nt => q _ t (s1.trans (sD.trans (sameN nt))) (.inl (.inl ?_))⟩⟩
      rw [upd_same]
      unfold tops M10.pks
      rw [lm]
theorem ndsV_drop {H : Hp} : ∀ {ps : List Nd} {vs : List V} (k : Nat), NdsV K H vs ps → NdsV K H (vs.drop k) (ps.drop k)
  | _, _, 0, h => h
  | [], vs, k + 1, h => by
    have := h.inv0
    subst this
    exact h
  | p :: ps, vs, k + 1, h => by
    obtain ⟨v, r, rfl, _, h2⟩ := h.inv
    exact ndsV_drop k h2
theorem slice_any {H : Hp} {a : Addr} {xs : List V} {b e : Nat} {Q : VK} (h : SqT K H a xs) (h1 : b ≤ e) (h2 : e ≤ xs.length) (q : ∀ H' t, Same H H' → SqT K H' t ((xs.take e).drop b) → Q (.ref t) H') : rSlA K (.ref a) (some (b : Int)) (some (e : Int)) H Q := by
  refine ⟨a, xs, rfl, h, fun hw => ?_, fun hw p hp => q _ p (sameN hp) (.inl (.inl ?_))⟩
  · rw [HT.sIx_nat, HT.sIx_nat] at hw
    have e1 : b = 0 := by omega
    have e2 : e = xs.length := by omega
    subst e1 e2
    refine q H a (Same.refl H) ?_
    rw [List.take_length]
    exact h
  · rw [upd_same]
    unfold cutV
    rw [HT.sIx_nat, HT.sIx_nat, Nat.min_eq_left h2, Nat.min_eq_left (Nat.le_trans h1 h2), List.drop_take]
theorem cat_any {H : Hp} {a b : Addr} {xs ys : List V} {Q : VK} (h : SqT K H a xs) (k : SqT K H b ys) (len : xs.length + ys.length ≤ sizeLine) (q : ∀ H' t, Same H H' → SqT K H' t (xs ++ ys) → Q (.ref t) H') : rCatA K (.ref a) (.ref b) H Q := by
  refine ⟨a, b, xs, ys, rfl, rfl, h, k, len, fun e => q H b (Same.refl H) (by rw [e]; exact k), fun _ e => q H a (Same.refl H) (by rw [e, List.append_nil]; exact h), fun _ _ p hp => q _ p (sameN hp) (.inl (.inl upd_same))⟩
theorem pieces_fst_len {ns : List Nd} (h : 2 ≤ ns.length) : (pieces ns).length ≤ ns.length := by
  have := (pieces_cont h).len
  omega
theorem ok_cuts {f g : Addr} {fd gd : FuncData} {m : Nat} (F : Fun K "cuts" "cuts" sCuts f fd) (G : FnOk P w K mg base CX0 (m + 5) g gd ["row"] (spPeaks K m)) (G' : Fun K "peaks" "peaks" sPeaks g gd) (gG : mg "peaks" = some (.ref g)) (bG : Binds K gd ["row"] [])
    (mr : mg "range" = none) (ml : mg "len" = none) (mt : mg "tuple" = none) (mz : mg "zip" = none) (mlist : mg "list" = none) : FnOk P w K mg base CX0 (m + 6) f fd ["row"] (spCuts K m) := by
  refine F.ok scCuts (fun vs H Q E h => ?_) (fun cdv A outer s H vs Q E hr h => ?_)
  · obtain ⟨a, ns, rfl, _⟩ := h
    rfl
  · obtain ⟨a, ns, rfl, hR, q⟩ := h
    refine ⟨_, pss_cons (ps_set (i := 1) scCuts.nd rfl (.inl rfl) (pe_call G hr (by rfl) gG G'.kp bG .nil pass0 (pa_cons (pv 0) pa_nil)))
      (pss_cons (ps_set (i := 2) scCuts.nd rfl (.inl rfl) (pe_op op_catA (pe_tup (pa_cons pe_int pa_nil)) (pv 1)))
      (pss_cons (ps_set (i := 3) scCuts.nd rfl (.inl rfl) (pe_op op_catA (pv 1) (pe_tup (pa_cons (pe_callB call_len_seq (by rfl) ml PySem.boot_len (pa_cons (pv 0) pa_nil)) pa_nil))))
      (pss_cons (ps_set (i := 4) scCuts.nd rfl (.inl rfl) (pe_lst pa_nil))
      (pss_cons (ps_for PassesOwn.never rfl (pi_zipA (by rfl) mz (pa_cons (pv 2) (pa_cons (pv 3) pa_nil))) (pg_tup rfl (pgs_cons (pg_name (i := 5) scCuts.nd rfl (.inl rfl)) (pgs_cons (pg_name (i := 6) scCuts.nd rfl (.inl rfl)) pgs_nil)))
        (pss_one (ps_expr (pe_bm PySem.F.plainAttrs_list PySem.F.slot_list_extend PySem.F.type_list_extend mt_extend (pv 4)
          (pa_cons (pe_listRg3 (by rfl) (by rfl) mlist (by rfl) mr (pa_cons (pv 5) (pa_cons (pe_op op_sub (pv 6) pe_int) (pa_cons pe_int pa_nil)))) pa_nil)))))
      (pss_one (ps_ret (pe_callTy call_tuple_of (by rfl) mt PyProof.Rows.boot_tuple (pa_cons (pv 4) pa_nil)))))))), ?_⟩
    refine ⟨.ref a, rfl, a, ns, rfl, hR, fun H1 p s1 hp => ?_⟩
    obtain ⟨us, hT, hlu, h2, hl⟩ := (hR.same s1).at
    have gap := gap_row h2
    have con := pieces_cont h2
    have lp := pieces_fst_len h2
    unfold pieces M10.pcs at con lp
    have tl : (tops ns).length ≤ ns.length := by
      unfold tops M10.pks
      refine Nat.le_trans (List.length_filter_le _ _) ?_
      rw [List.length_range', mrk_len]
      omega
    refine ⟨(show 1 ≤ sizeLine from by decide), fun t0 n0 => ⟨.ref p, rfl, cat_any (.inl (.inl upd_same)) (sameT (sameN n0) hp) (Nat.le_trans (show 1 + (vN (tops ns)).length ≤ 100001 by rw [vN_len]; omega) (by decide)) fun H2 b s2 hb => ?_⟩⟩
    have s12 := (sameN (o := .tup [.int 0]) n0).trans s2
    refine ⟨.ref p, rfl, .ref a, rfl, a, us, rfl, .inr (sameT s12 hT), (show 1 ≤ sizeLine from by decide), fun t3 n3 => cat_any (sameT (s12.trans (sameN n3)) hp) (.inl (.inl upd_same)) (Nat.le_trans (show (vN (tops ns)).length + 1 ≤ 100001 by rw [vN_len]; omega) (by decide)) fun H3 e s3 he => ?_⟩
    have s23 := (sameN (o := .tup [.int ((us.length : Nat) : Int)]) n3).trans s3
    have hb3 : SqT K H3 b (vN (0 :: tops ns)) := sameT s23 hb
    have he3 : SqT K H3 e (vN (tops ns ++ [ns.length])) := by
      rw [vN_app, ← hlu]
      exact he
    have s13 := s12.trans s23
    rw [← M10.sts_fst ns.length 0 (tops ns)] at hb3
    rw [← M10.sts_snd ns.length 0 (tops ns)] at he3
    refine ⟨(show 0 ≤ sizeLine from by decide), fun L nL => ?_⟩
    have sL := sameN (o := .lst []) nL
    refine ⟨.ref b, rfl, .ref e, rfl, b, e, _, _, rfl, .inr ⟨sameT sL hb3, sameT sL he3, ?_⟩⟩
    generalize hst : M10.sts ns.length 0 (tops ns) = st at hb3 he3 con lp
    refine for_zipT (xs := vN (st.map (·.1))) (ys := vN (st.map (·.2))) (by simp) (fun i σ H' => ∃ y5 y6, σ = [some (.ref a), some (.ref p), some (.ref b), some (.ref e), some (.ref L), y5, y6] ∧ H' L = some (.lst (vN (((st.take i).flatMap M10.stz).map (·.1)))) ∧ Same H3 H')
      ⟨none, none, rfl, upd_same, sL⟩ (fun i σ H' hp' => ?_) (fun i x y T σ H' hx hy hp' nT => ?_) (fun σ H' hp' => ?_)
    · obtain ⟨_, _, _, _, s4⟩ := hp'
      exact ⟨sameT s4 hb3, sameT s4 he3⟩
    · obtain ⟨y5, y6, rfl, gL, s4⟩ := hp'
      obtain ⟨z, hz, rfl⟩ : ∃ z, st[i]? = some z ∧ x = .int (z.1 : Nat) := by
        rw [List.getElem?_map, List.getElem?_map, Option.map_map] at hx
        obtain ⟨z, hz, rfl⟩ := Option.map_eq_some_iff.mp hx
        exact ⟨z, hz, rfl⟩
      have ey : y = .int (z.2 : Nat) := by
        rw [List.getElem?_map, List.getElem?_map, hz] at hy
        exact (Option.some.inj hy).symm
      subst ey
      have hzb := M10.sts_gap gap z (by rw [hst]; exact List.mem_of_getElem? hz)
      obtain ⟨d, hd⟩ : ∃ d, z.2 = z.1 + d := ⟨z.2 - z.1, by omega⟩
      have d2 : 2 ≤ d := by omega
      have gT := sameN (o := .tup [V.int (z.1 : Nat), .int (z.2 : Nat)]) nT
      refine ⟨T, [.int (z.1 : Nat), .int (z.2 : Nat)], rfl, .inl (.inl upd_same), rfl, _, [.int (z.2 : Nat)], rfl, _, [], rfl, rfl, ?_⟩
      refine ⟨.ref L, rfl, .inl ⟨rfl, _, .inl (.inl (gT _ _ gL))⟩, _, rfl, _, rfl, _, 1, rfl, rfl, (z.1 : Nat), _, 2, d / 2, rfl, by rw [hd]; exact rgC_two d2 (by omega), by omega, fun l5 n5 => ?_⟩
      have tk : st.take (i + 1) = st.take i ++ [z] := take_more hz
      have ev : ((List.range (d / 2)).map fun k => V.int (((z.1 : Nat) : Int) + (k : Nat) * 2)) = vN ((M10.stz z).map (·.1)) := by
        unfold M10.stz
        rw [hd, Nat.add_sub_cancel_left, M10.str_fst d z.1 d2]
        show _ = List.map (fun n : Nat => V.int (n : Int)) (List.map (fun k => z.1 + k * 2) (List.range (d / 2)))
        rw [List.map_map]
        refine List.map_congr_left fun k _ => int_congr ?_
        show (z.1 : Int) + (k : Nat) * 2 = ((z.1 + k * 2 : Nat) : Int)
        omega
      have lall : (((st.take i).flatMap M10.stz).map (·.1)).length + ((M10.stz z).map (·.1)).length ≤ ns.length := by
        have e1 : (st.take (i + 1)).flatMap M10.stz ++ (st.drop (i + 1)).flatMap M10.stz = st.flatMap M10.stz := by rw [← List.flatMap_append, List.take_append_drop]
        have e2 := congrArg List.length e1
        rw [List.length_append, tk, List.flatMap_append, List.length_append] at e2
        have e3 : ([z].flatMap M10.stz) = M10.stz z := by simp
        rw [e3] at e2
        rw [List.length_map, List.length_map]
        omega
      refine ⟨L, l5, _, _, rfl, rfl, sameN n5 _ _ (gT _ _ gL), upd_same, ?_, _, _, rfl, ?_, sameW ((s4.trans gT).trans (sameN n5)) nL⟩
      · rw [ev, vN_len, vN_len]
        exact Nat.le_trans lall (Nat.le_of_lt (line5 hl))
      · rw [upd_same, ev, tk, List.flatMap_append, List.map_append]
        unfold vN
        rw [List.map_append]
        simp
    · obtain ⟨y5, y6, rfl, gL, s4⟩ := hp'
      have full : st.take (vN (st.map (·.1))).length = st := List.take_of_length_le (by simp)
      rw [full] at gL
      refine ⟨.ref L, rfl, L, _, rfl, .inl ⟨.inl (.inl gL), fun t nt => q _ t (((s1.trans s13).trans s4).trans (sameN nt)) (.inl (.inl ?_))⟩⟩
      rw [upd_same]
      unfold pieces M10.pcs
      rw [hst]
theorem ok_blocks {f g : Addr} {fd gd : FuncData} {m : Nat} (F : Fun K "blocks" "blocks" sBlocks f fd) (G : FnOk P w K mg base CX0 (m + 6) g gd ["row"] (spCuts K m)) (G' : Fun K "cuts" "cuts" sCuts g gd) (gG : mg "cuts" = some (.ref g)) (bG : Binds K gd ["row"] [])
    (ml : mg "len" = none) (mt : mg "tuple" = none) (mz : mg "zip" = none) : FnOk P w K mg base CX0 (m + 7) f fd ["row"] (spBlocks K m) := by
  refine F.ok scBlocks (fun vs H Q E h => ?_) (fun cdv A outer s H vs Q E hr h => ?_)
  · obtain ⟨a, ns, rfl, _⟩ := h
    rfl
  · obtain ⟨a, ns, rfl, hR, q⟩ := h
    refine ⟨_, pss_cons (ps_set (i := 1) scBlocks.nd rfl (.inl rfl) (pe_call G hr (by rfl) gG G'.kp bG .nil pass0 (pa_cons (pv 0) pa_nil)))
      (pss_cons (ps_set (i := 2) scBlocks.nd rfl (.inl rfl) (pe_op op_catA (pe_slice sl_tupA (pv 1) (po_some pe_int) po_none) (pe_tup (pa_cons (pe_callB call_len_seq (by rfl) ml PySem.boot_len (pa_cons (pv 0) pa_nil)) pa_nil))))
      (pss_one (ps_ret (pe_callTy call_tuple_of (by rfl) mt PyProof.Rows.boot_tuple (pa_cons (pe_lc (own := [("begin", 3), ("end", 4)]) (g := gTup K 2 (gCons (gName 3) (gCons (gName 4) gNil))) (tt := tYes)
        (te := tTup (tCons (tC (.str "block")) (tCons (tSl (rSlA K) (tVar 0) (tPart (tVar 3)) (tPart (tVar 4))) tNil)))
        rfl scBlocks.nd (pi_zipA (by rfl) mz (pa_cons (pv 1) (pa_cons (pv 2) pa_nil))) (blkOk_by (N := ["row", "begins", "ends", "begin", "end"]) (sc := defScope sBlocks) (by decide +kernel))
        (fun _ _ _ _ _ => pg_tup rfl (pgs_cons (pg_name (i := 3) scBlocks.nd rfl (Or.inl rfl) (hf := Or.inr rfl)) (pgs_cons (pg_name (i := 4) scBlocks.nd rfl (Or.inl rfl) (hf := Or.inr rfl)) pgs_nil))) (fun _ _ _ _ _ => pts_nil)
        (fun _ _ _ _ _ => pe_tup (pa_cons pe_str (pa_cons (pe_slice sl_tupA (pv 0) (po_some (pv 3)) (po_some (pv 4))) pa_nil)))) pa_nil))))), ?_⟩
    refine ⟨.ref a, rfl, a, ns, rfl, hR, fun H1 b s1 hb => ?_⟩
    obtain ⟨us, l0, hT, hN, _, _, _, _, h2, hl⟩ := hR.same s1
    have hlu := hN.len
    have con := pieces_cont h2
    have lp := pieces_fst_len h2
    have bnd := con.bnd.2
    generalize pieces ns = pz at hb con lp bnd q ⊢
    obtain ⟨z0, r0, rfl⟩ : ∃ z r, pz = z :: r := by
      cases pz with
      | nil =>
        have : 0 = ns.length := con
        omega
      | cons z r => exact ⟨z, r, rfl⟩
    have ee := con.ends
    refine ⟨.ref b, rfl, 1, rfl, b, _, rfl, hb, fun hw => ?_, fun hw t nt => ?_⟩
    · exfalso
      have := hw.1
      rw [show (1 : Int) = ((1 : Nat) : Int) from rfl, HT.sIx_nat, vN_len, List.length_map, List.length_cons] at this
      omega
    have st := sameN (o := .tup (cutV (vN ((z0 :: r0).map (·.1))) (some 1) none)) nt
    have ht : SqT K (upd H1 t (.tup (cutV (vN ((z0 :: r0).map (·.1))) (some 1) none))) t (vN (r0.map (·.1))) := by
      refine .inl (.inl ?_)
      rw [upd_same]
      refine congrArg (fun z => some (HO.tup z)) ?_
      unfold cutV
      rw [show (1 : Int) = ((1 : Nat) : Int) from rfl, HT.sIx_nat, HT.sIx_none, vN_len, List.length_map, List.length_cons, Nat.min_eq_left (by omega)]
      refine List.take_of_length_le ?_
      simp
    generalize upd H1 t (.tup (cutV (vN ((z0 :: r0).map (·.1))) (some 1) none)) = H2 at st ht ⊢
    refine ⟨.ref a, rfl, a, us, rfl, .inr (sameT st hT), (show 1 ≤ sizeLine from by decide), fun t3 n3 => cat_any (sameT (sameN n3) ht) (.inl (.inl upd_same)) (Nat.le_trans (show (vN (r0.map (·.1))).length + 1 ≤ 100001 by rw [vN_len, List.length_map]; rw [List.length_cons] at lp; omega) (by decide)) fun H3 e s3 he => ?_⟩
    have s13 := (st.trans (sameN (o := .tup [.int ((us.length : Nat) : Int)]) n3)).trans s3
    have he : SqT K H3 e (vN ((z0 :: r0).map (·.2))) := by
      rw [← ee, vN_app, ← hlu]
      exact he
    have hb := sameT s13 hb
    have hT := sameT s13 hT
    have hN := hN.up (.of (K := K) s13)
    generalize z0 :: r0 = pz at he hb lp bnd q ⊢
    refine ⟨.ref b, rfl, .ref e, rfl, b, e, _, _, rfl, .inr ⟨hb, he, fun D nD => ?_⟩⟩
    refine lc_zipT (xs := vN (pz.map (·.1))) (ys := vN (pz.map (·.2))) (fun i H' => i ≤ pz.length ∧ ∃ ws, H' D = some (.lst ws) ∧ NdsV K H' ws ((pz.take i).map fun z => Nd.blk (pce ns z)) ∧ Same H3 H') ⟨Nat.zero_le _, [], upd_same, .nil, sameN nD⟩ (fun i H' hp' => ?_) (fun i x y T H' hx hy hp' nT => ?_) (fun i H' hp' hi => ?_)
    · obtain ⟨_, _, _, _, s4⟩ := hp'
      exact ⟨sameT s4 hb, sameT s4 he⟩
    · obtain ⟨hi, ws, gD, dD, s4⟩ := hp'
      obtain ⟨z, hz, rfl⟩ : ∃ z, pz[i]? = some z ∧ x = .int (z.1 : Nat) := by
        rw [List.getElem?_map, List.getElem?_map, Option.map_map] at hx
        obtain ⟨z, hz, rfl⟩ := Option.map_eq_some_iff.mp hx
        exact ⟨z, hz, rfl⟩
      have ey : y = .int (z.2 : Nat) := by
        rw [List.getElem?_map, List.getElem?_map, hz] at hy
        exact (Option.some.inj hy).symm
      subst ey
      have hzb := bnd z (List.mem_of_getElem? hz)
      have tk : pz.take (i + 1) = pz.take i ++ [z] := take_more hz
      have sT := sameN (o := .tup [V.int (z.1 : Nat), .int (z.2 : Nat)]) nT
      have hil := (List.getElem?_eq_some_iff.mp hz).1
      refine ⟨T, [.int (z.1 : Nat), .int (z.2 : Nat)], rfl, .inl (.inl upd_same), rfl, _, [.int (z.2 : Nat)], rfl, _, [], rfl, rfl, rfl, ?_⟩
      refine ⟨.ref a, rfl, _, rfl, _, rfl, _, rfl, _, rfl, slice_any (sameT (s4.trans sT) hT) (by omega) (by omega) fun H5 t5 s5 h5 => ⟨(show 2 ≤ sizeLine from by decide), fun t6 n6 => ?_⟩⟩
      have s6 := sameN (o := .tup [.str "block", .ref t5]) n6
      have s56 := sT.trans (s5.trans s6)
      have nb : NdV K (upd H5 t6 (.tup [.str "block", .ref t5])) (.ref t6) (.blk (pce ns z)) := .ofBlk (.inl (.inl upd_same)) (sameT s6 h5) (ndsV_drop z.1 ((hN.up (.of (K := K) (s4.trans s56))).take z.2))
      have gD6 := s56 _ _ gD
      have dD6 := dD.up (.of (K := K) s56)
      refine ⟨ws, gD6, ?_, hil, ws ++ [.ref t6], upd_same, ?_, sameW (s4.trans s56) nD⟩
      · rw [dD.len, List.length_map]
        exact line5 (small_take (by omega))
      · rw [tk, List.map_append]
        have t9 : Tups K (upd H5 t6 (.tup [.str "block", .ref t5])) (upd (upd H5 t6 (.tup [.str "block", .ref t5])) D (.lst (ws ++ [.ref t6]))) := (But.set (p := D)).tups gD6
        exact (dD6.up t9).app (.one (nb.up t9))
    · obtain ⟨hil, ws, gD, dD, s4⟩ := hp'
      have full : pz.take i = pz := List.take_of_length_le (by
        rw [vN_len, vN_len, List.length_map, List.length_map] at hi
        omega)
      rw [full] at dD
      exact ⟨D, ws, rfl, .inl ⟨.inl (.inl gD), fun t nt => q _ t ws (((s1.trans s13).trans s4).trans (sameN nt)) (.inl (.inl upd_same)) (dD.up (.of (sameN nt)))⟩⟩
end
theorem unb_tail : ∀ {ns : List Nd} {a : Nd}, Unb (a :: ns) → Unb ns
  | [], _, _ => trivial
  | b :: r, a, h => h.2
theorem unb_drop : ∀ (k : Nat) {ns : List Nd}, Unb ns → Unb (ns.drop k)
  | 0, _, h => h
  | k + 1, [], h => h
  | k + 1, a :: r, h => unb_drop k (unb_tail h)
theorem unb_take : ∀ (k : Nat) {ns : List Nd}, Unb ns → Unb (ns.take k)
  | 0, _, _ => trivial
  | k + 1, [], h => h
  | 1, a :: r, h => trivial
  | k + 2, [a], h => trivial
  | k + 2, a :: b :: r, h => ⟨h.1, unb_take (k + 1) (ns := b :: r) h.2⟩
theorem ok_piece {ns : List Nd} {l : Nat} {z : Nat × Nat} (ok : OkAll ns l) (un : Unb ns) (h1 : z.1 + 2 ≤ z.2) (h2 : z.2 ≤ z.1 + 3) (h3 : z.2 ≤ ns.length) : Ok (.blk (pce ns z)) (l + 1) := by
  have len : (pce ns z).length = z.2 - z.1 := by
    unfold pce
    rw [List.length_drop, List.length_take]
    omega
  unfold Ok
  refine ⟨by omega, by omega, by omega, OkAll.of fun n hn => ok.mem n ?_, ?_⟩
  · unfold pce at hn
    exact List.mem_of_mem_take (List.mem_of_mem_drop hn)
  · exact unb_drop z.1 (unb_take z.2 un)
theorem ok_pieces {ns : List Nd} {l : Nat} (ok : OkAll ns l) (un : Unb ns) (h : 2 ≤ ns.length) : OkAll ((pieces ns).map fun z => Nd.blk (pce ns z)) (l + 1) := OkAll.of fun n hn => by
  obtain ⟨z, hz, rfl⟩ := List.mem_map.mp hn
  have := (pieces_cont h).bnd.2 z hz
  exact ok_piece ok un this.1 this.2.1 this.2.2
/-! ### rows -/
section
theorem wideL : ∀ l : Nat, l ≤ 7 → wide l ≤ 1000000
  | 0, _ => by decide
  | 1, _ => by decide
  | 2, _ => by decide
  | 3, _ => by decide
  | 4, _ => by decide
  | 5, _ => by decide
  | 6, _ => by decide
  | 7, _ => by decide
  | l + 8, h => by omega
def bks (ns : List Nd) : List Nd := (pieces ns).map fun z => Nd.blk (pce ns z)
noncomputable def Nx (ns : List Nd) : List Nd := mkRuns (bks ns)
noncomputable def nx : Nat → List Nd → List Nd
  | 0, r => r
  | i + 1, r => Nx (nx i r)
theorem base_mkRun {p : Nd × Nat} (h : p.1.isRun = false) : (mkRun p).base = p.1 := by
  unfold mkRun
  split
  · exact base_of_no h
  · rfl
theorem unb_of : ∀ {ns : List Nd}, (∀ (i : Nat) (x y : Nd), ns[i]? = some x → ns[i + 1]? = some y → x.base ≠ y.base) → Unb ns
  | [], _ => trivial
  | [_], _ => trivial
  | a :: b :: r, h => ⟨h 0 a b rfl rfl, unb_of (ns := b :: r) fun i x y h1 h2 => h (i + 1) x y h1 h2⟩
theorem unb_runs {gs : List (Nd × Nat)} (nr : ∀ p ∈ gs, p.1.isRun = false) (u : ∀ (i : Nat) p q, gs[i]? = some p → gs[i + 1]? = some q → p.1 ≠ q.1) : Unb (gs.map mkRun) := unb_of fun i x y hx hy => by
  rw [List.getElem?_map] at hx hy
  obtain ⟨p, hp, rfl⟩ := Option.map_eq_some_iff.mp hx
  obtain ⟨q, hq, rfl⟩ := Option.map_eq_some_iff.mp hy
  rw [base_mkRun (nr p (List.mem_of_getElem? hp)), base_mkRun (nr q (List.mem_of_getElem? hq))]
  exact u i p q hp hq
theorem grp_ne {ns : List Nd} (h : ns ≠ []) : grp ns ≠ [] := by
  rcases List.eq_nil_or_concat ns with rfl | ⟨r, n, rfl⟩
  · exact absurd rfl h
  · rw [List.concat_eq_append, grp_app]
    obtain ⟨i, c, e⟩ := stepG_last (grp r) n
    rw [e]
    simp
theorem Nx_ok {ns : List Nd} {l : Nat} (ok : OkAll ns l) (un : Unb ns) (h : 2 ≤ ns.length) (hl : ns.length ≤ 1000) : OkAll (Nx ns) (l + 1) ∧ Unb (Nx ns) ∧ 1 ≤ (Nx ns).length ∧ 2 * (Nx ns).length ≤ ns.length := by
  have okb : OkAll (bks ns) (l + 1) := ok_pieces ok un h
  have nr : ∀ n ∈ bks ns, n.isRun = false := fun n hn => by
    obtain ⟨z, _, rfl⟩ := List.mem_map.mp hn
    rfl
  have lc := (pieces_cont h).len
  have lb : (bks ns).length = (pieces ns).length := List.length_map _
  have lg := grp_len (bks ns)
  have nb : bks ns ≠ [] := fun z => by
    have e : (pieces ns).length = 0 := by rw [← lb, z]; rfl
    have c := pieces_cont h
    rw [List.eq_nil_of_length_eq_zero e] at c
    have c : 0 = ns.length := c
    omega
  have ng := grp_ne nb
  refine ⟨mkRuns_ok okb nr (Nat.le_trans (show (bks ns).length ≤ 1000 by omega) (by decide)), ?_, ?_, ?_⟩
  · exact unb_runs (fun p hp => nr _ (grp_foot _ p hp).1) (grp_unl _ _ rfl)
  · unfold Nx mkRuns
    rw [List.length_map]
    exact List.length_pos_iff.mpr ng
  · unfold Nx mkRuns
    rw [List.length_map]
    omega
/-- a row of level j -/
def Lv (r0 : List Nd) (j : Nat) : Prop := OkAll (nx j r0) j ∧ Unb (nx j r0) ∧ 1 ≤ (nx j r0).length ∧ (nx j r0).length * 2 ^ j ≤ 300
theorem Lv.small {r0 : List Nd} {j : Nat} (h : Lv r0 j) : j ≤ 8 ∧ (nx j r0).length ≤ 300 := by
  obtain ⟨_, _, h3, h4⟩ := h
  have p : 1 ≤ 2 ^ j := Nat.one_le_two_pow
  constructor
  · rcases Nat.lt_or_ge 8 j with z | z
    · have e : 2 ^ 9 ≤ 2 ^ j := Nat.pow_le_pow_right (by decide) z
      have : 1 * 2 ^ j ≤ (nx j r0).length * 2 ^ j := Nat.mul_le_mul_right _ h3
      omega
    · exact z
  · have : (nx j r0).length * 1 ≤ (nx j r0).length * 2 ^ j := Nat.mul_le_mul_left _ p
    omega
theorem Lv.two {r0 : List Nd} {j : Nat} (h : Lv r0 j) (k : 2 ≤ (nx j r0).length) : j ≤ 7 := by
  obtain ⟨_, _, _, h4⟩ := h
  rcases Nat.lt_or_ge 7 j with z | z
  · have e : 2 ^ 8 ≤ 2 ^ j := Nat.pow_le_pow_right (by decide) z
    have : 2 * 2 ^ j ≤ (nx j r0).length * 2 ^ j := Nat.mul_le_mul_right _ k
    omega
  · exact z
theorem Lv.next {r0 : List Nd} {j : Nat} (h : Lv r0 j) (k : 2 ≤ (nx j r0).length) : Lv r0 (j + 1) ∧ 2 * (nx (j + 1) r0).length ≤ (nx j r0).length := by
  have s := h.small
  obtain ⟨h1, h2, h3, h4⟩ := h
  obtain ⟨k1, k2, k3, k4⟩ := Nx_ok h1 h2 k (by omega)
  refine ⟨⟨k1, k2, k3, ?_⟩, k4⟩
  show (Nx (nx j r0)).length * 2 ^ (j + 1) ≤ 300
  rw [Nat.pow_succ, Nat.mul_comm (2 ^ j) 2, ← Nat.mul_assoc]
  refine Nat.le_trans (Nat.mul_le_mul_right _ ?_) h4
  omega
/-- how many rows -/
def Top (r0 : List Nd) (t : Nat) : Prop := (r0 = [] ∧ t = 0) ∨ (r0 ≠ [] ∧ ∃ s, t = s + 1 ∧ (nx s r0).length ≤ 1 ∧ ∀ j, j < s → 1 < (nx j r0).length)
theorem Top.one {r0 : List Nd} {t t' : Nat} (h : Top r0 t) (k : Top r0 t') : t = t' := by
  rcases h with ⟨h1, h2⟩ | ⟨h1, s, h2, h3, h4⟩
  · rcases k with ⟨_, k2⟩ | ⟨k1, _⟩
    · omega
    · exact absurd h1 k1
  · rcases k with ⟨k1, _⟩ | ⟨_, s', k2, k3, k4⟩
    · exact absurd k1 h1
    · rcases Nat.lt_trichotomy s s' with z | z | z
      · have := k4 s z
        omega
      · omega
      · have := h4 s' z
        omega
theorem giv_row0 {gs : List (Nd × Nat)} (g : Giv gs) (n : gs ≠ []) (l : gs.length ≤ 300) : Lv (gs.map mkRun) 0 := by
  have nr : ∀ p ∈ gs, p.1.isRun = false := fun p hp => by
    obtain ⟨⟨k, e, _⟩, _⟩ := g.1 p hp
    rw [e]
    rfl
  refine ⟨OkAll.of fun x hx => ?_, unb_runs nr g.2, ?_, ?_⟩
  · obtain ⟨p, hp, rfl⟩ := List.mem_map.mp hx
    obtain ⟨⟨k, e, hk⟩, c1, c2⟩ := g.1 p hp
    have o : Ok p.1 0 := by
      rw [e]
      unfold Ok
      exact ⟨rfl, hk⟩
    unfold mkRun
    split
    · exact o
    · unfold Ok
      exact ⟨by omega, Nat.le_trans c2 (by decide), nr p hp, o⟩
  · show 1 ≤ (gs.map mkRun).length
    rw [List.length_map]
    exact List.length_pos_iff.mpr n
  · show (gs.map mkRun).length * 2 ^ 0 ≤ 300
    rw [List.length_map]
    omega
/-- the rows as data -/
noncomputable def rdat (r0 : List Nd) (t : Nat) : List PyData := (List.range t).map fun j => .tuple (datAll (nx j r0))
theorem rdat_more (r0 : List Nd) (t : Nat) : rdat r0 (t + 1) = rdat r0 t ++ [.tuple (datAll (nx t r0))] := by
  unfold rdat
  rw [List.range_succ, List.map_append]
  rfl
end
end C64

set_option Elab.async false
set_option linter.all false
set_option maxRecDepth 100000
namespace C64
open PySem PySem.Spec PyProof.Rows L2 Loc RZ
/-! ### made_runs and the law's own joining -/
section
variable {P : Program} {w : World} {K : PySem.W.Frag} {mg : Str → Option Value} {base : Heap}
theorem scRunOf : FnScope ["node", "count"] ["node", "count"] (defScope sRunOf) := ⟨rfl, rfl, rfl, by decide +kernel, rfl, by decide +kernel, by decide +kernel⟩
theorem scMade : FnScope ["nodes", "made", "begin", "end"] ["nodes"] (defScope sMade) := ⟨rfl, rfl, rfl, by decide +kernel, rfl, by decide +kernel, by decide +kernel⟩
def spRunOf (K : PySem.W.Frag) : Sp := fun vs H Q _ => ∃ (v : V) (n : Nd) (z : Int) (c : Nat), vs = [v, .int z] ∧ z = c ∧ NdV K H v n ∧ ∀ H' u, Same H H' → NdV K H' u (mkRun (n, c)) → Q u H'
theorem ok_runof {f : Addr} {fd : FuncData} {k : Nat} (F : Fun K "run_of" "run_of" sRunOf f fd) : FnOk P w K mg base CX0 (k + 1) f fd ["node", "count"] (spRunOf K) := by
  refine F.ok scRunOf (fun vs H Q E h => ?_) (fun cdv A outer s H vs Q E hr h => ?_)
  · obtain ⟨v, n, z, c, rfl, _⟩ := h
    rfl
  · obtain ⟨v, n, z, c, rfl, rfl, hn, q⟩ := h
    refine ⟨_, pss_cons (ps_if (pt_cmpR op_eq (pv 1) pe_int (nomark _)) (pss_one (ps_ret (pv 0))) pss_nil) (pss_one (ps_ret (pe_tup (pa_cons pe_str (pa_cons (pv 0) (pa_cons (pv 1) pa_nil)))))), ?_⟩
    refine ⟨_, rfl, rfl, _, rfl, ite2 (fun e => ?_) (fun e => ?_)⟩
    · have e0 : (c : Int) = 1 := V.int.inj (of_decide_eq_true e)
      have e1 : c = 1 := by omega
      refine ⟨v, rfl, q H v (Same.refl H) ?_⟩
      unfold mkRun
      rw [if_pos e1]
      exact hn
    · have e1 : c ≠ 1 := fun z => e (by rw [z]; rfl)
      refine ⟨v, rfl, _, rfl, (show 3 ≤ sizeLine from by decide), fun p hp => q _ _ (sameN hp) ?_⟩
      unfold mkRun
      rw [if_neg e1]
      exact .ofRun (.inl (.inl upd_same)) (hn.up (.of (sameN hp)))
def spMade (K : PySem.W.Frag) : Sp := fun vs H Q _ => ∃ (a : Addr) (us : List V) (ns : List Nd) (l : Nat), vs = [.ref a] ∧ SqT K H a us ∧ NdsV K H us ns ∧ OkAll ns l ∧ l ≤ 20 ∧ ns.length ≤ 100000 ∧
  ∀ H' p ws, Same H H' → H' p = some (.tup ws) → NdsV K H' ws (mkRuns ns) → Q (.ref p) H'
theorem grp_take {ns : List Nd} {b e : Nat} {x : Nd} (hbe : b < e) (he : e ≤ ns.length) (h : ∀ j, b ≤ j → j < e → ns[j]? = some x) (hl : (ns.take b).getLast? ≠ some x) : grp (ns.take e) = grp (ns.take b) ++ [(x, e - b)] := by
  have : ns.take e = ns.take b ++ List.replicate ((e - b - 1) + 1) x := by
    refine List.ext_getElem? fun j => ?_
    rw [List.getElem?_append, List.getElem?_take, List.getElem?_take, List.length_take, List.getElem?_replicate]
    rcases Nat.lt_or_ge j b with c | c
    · rw [if_pos (by omega), if_pos (by omega), if_pos c]
    · rw [if_neg (show ¬ j < min b ns.length by omega)]
      rcases Nat.lt_or_ge j e with c2 | c2
      · rw [if_pos c2, if_pos (by omega), h j c c2]
      · rw [if_neg (by omega), if_neg (by omega)]
  rw [this, grp_rep _ _ hl]
  congr 3
  omega
theorem ok_made {f g : Addr} {fd gd : FuncData} {k : Nat} (F : Fun K "made_runs" "made_runs" sMade f fd) (R : Fun K "run_of" "run_of" sRunOf g gd) (gR : mg "run_of" = some (.ref g)) (bR : Binds K gd ["node", "count"] [])
    (ml : mg "len" = none) (mt : mg "tuple" = none) : FnOk P w K mg base CX0 (k + 2) f fd ["nodes"] (spMade K) := by
  have GR : FnOk P w K mg base CX0 (k + 1) g gd ["node", "count"] (spRunOf K) := ok_runof R
  refine F.ok scMade (fun vs H Q E h => ?_) (fun cdv A outer s H vs Q E hr h => ?_)
  · obtain ⟨a, us, ns, l, rfl, _⟩ := h
    rfl
  · obtain ⟨a, us, ns, l, rfl, hS, hn, ok, l20, hlen, q⟩ := h
    refine ⟨_, pss_cons (ps_set (i := 1) scMade.nd rfl (.inl rfl) (pe_lst pa_nil))
      (pss_cons (ps_set (i := 2) scMade.nd rfl (.inl rfl) pe_int)
      (pss_cons (ps_while PassesOwn.never (pt_cmpR op_lt (pv 2) (pe_callB call_len_seq (by rfl) ml PySem.boot_len (pa_cons (pv 0) pa_nil)) (nomark _))
        (pss_cons (ps_set (i := 3) scMade.nd rfl (.inl rfl) (pe_op op_add (pv 2) pe_int))
        (pss_cons (ps_while PassesOwn.never (PW.pt (pw_and (pt_cmpR op_lt (pv 3) (pe_callB call_len_seq (by rfl) ml PySem.boot_len (pa_cons (pv 0) pa_nil)) (nomark _))
            (pw_and1 (pt_cmpR (op_eqD hr.units) (pe_ix ix_tup (pv 0) (pv 3) (fun _ _ => rfl)) (pe_ix ix_tup (pv 0) (pv 2) (fun _ _ => rfl)) (nomark _)))))
          (pss_one (ps_aug (i := 3) scMade.nd rfl (.inl rfl) pe_int ip_add)))
        (pss_cons (ps_expr (pe_bm PySem.F.plainAttrs_list PySem.F.slot_list_append PySem.F.type_list_append mt_append (pv 1)
            (pa_cons (pe_call GR hr (by rfl) gR R.kp bR .nil pass0 (pa_cons (pe_ix ix_tup (pv 0) (pv 2) (fun _ _ => rfl)) (pa_cons (pe_op op_sub (pv 3) (pv 2)) pa_nil))) pa_nil)))
        (pss_one (ps_set (i := 2) scMade.nd rfl (.inl rfl) (pv 3)))))))
      (pss_one (ps_ret (pe_callTy call_tuple_of (by rfl) mt PyProof.Rows.boot_tuple (pa_cons (pv 1) pa_nil)))))), ?_⟩
    refine ⟨(show 0 ≤ sizeLine from by decide), fun M hM => ?_⟩
    refine ⟨fun m σ H' => ∃ (b : Nat) (ws : List V) (y3 : Option V), m = ns.length - b ∧ b ≤ ns.length ∧ σ = [some (.ref a), some (.ref M), some (.int b), y3] ∧ H' M = some (.lst ws) ∧ NdsV K H' ws (mkRuns (ns.take b)) ∧ Same H H' ∧
        (∀ x, ns[b]? = some x → (ns.take b).getLast? ≠ some x), ⟨ns.length, 0, [], none, rfl, Nat.zero_le _, rfl, upd_same, ?_, sameN hM, fun x _ => by simp⟩, ?_⟩
    · rw [List.take_zero]
      exact .nil
    rintro m σ H1 ⟨b, ws, y3, rfl, hb, rfl, e1, e2, s1, bd⟩
    have hS1 := sameT s1 hS
    have hn1 : NdsV K H1 us ns := hn.up (.of s1)
    have hlu := hn.len
    refine ⟨_, rfl, .ref a, rfl, a, us, rfl, .inr hS1, _, _, rfl, rfl, _, rfl, ite2 (fun e => ?_) (fun e => ?_)⟩
    · have hlt : b < ns.length := by
        have : (b : Int) < ((us.length : Nat) : Int) := of_decide_eq_true e
        omega
      obtain ⟨x, hx⟩ := get_of hlt
      obtain ⟨vx, hvx, kx⟩ := hn1.at hx
      have okx := ok.mem x (List.mem_of_getElem? hx)
      refine ⟨fun σ' H' => ∃ (b' : Nat) (ws : List V) (y3 : Option V), b < b' ∧ b' ≤ ns.length ∧ σ' = [some (.ref a), some (.ref M), some (.int b'), y3] ∧ H' M = some (.lst ws) ∧ NdsV K H' ws (mkRuns (ns.take b')) ∧ Same H H' ∧ (∀ x, ns[b']? = some x → (ns.take b').getLast? ≠ some x),
        fun σ' H' hN => ?_, ?_⟩
      · obtain ⟨b', w', y, k1, k2, k3⟩ := hN
        exact ⟨ns.length - b', by omega, b', w', y, rfl, k2, k3⟩
      refine ⟨_, rfl, _, 1, rfl, rfl, ?_⟩
      refine ⟨fun m σ H' => ∃ e : Nat, m = ns.length - e ∧ b < e ∧ e ≤ ns.length ∧ σ = [some (.ref a), some (.ref M), some (.int b), some (.int e)] ∧ H' = H1 ∧ ∀ j, b ≤ j → j < e → ns[j]? = some x,
        ⟨_, b + 1, rfl, by omega, hlt, ?_, rfl, fun j j1 j2 => by rw [show j = b by omega]; exact hx⟩, ?_⟩
      · show _ = [some (V.ref a), some (V.ref M), some (V.int b), some (V.int ((b + 1 : Nat) : Int))]
        rw [Int.natCast_add]
        rfl
      rintro m σ Hc ⟨e', rfl, be, he, rfl, rfl, hj⟩
      refine ⟨_, rfl, .ref a, rfl, a, us, rfl, .inr hS1, _, _, rfl, rfl, _, rfl, ?_⟩
      by_cases c : e' < ns.length
      · have d1 : decide ((e' : Int) < ((us.length : Nat) : Int)) = true := decide_eq_true (by omega)
        rw [d1]
        obtain ⟨y, hy⟩ := get_of c
        obtain ⟨vy, hvy, ky⟩ := hn1.at hy
        have oky := ok.mem y (List.mem_of_getElem? hy)
        refine ⟨.ref a, rfl, _, rfl, a, us, _, vy, rfl, rfl, hS1, atI_nat hvy, .ref a, rfl, _, rfl, a, us, _, vx, rfl, rfl, hS1, atI_nat hvx, _, _, ky, kx, shaped_dat oky l20, shaped_dat okx l20, _, rfl, ?_⟩
        by_cases eq : y = x
        · rw [eqv_yes eq]
          refine ⟨fun σ' H' => σ' = [some (.ref a), some (.ref M), some (.int b), some (.int ((e' + 1 : Nat) : Int))] ∧ H' = Hc, fun σ' H' hN => ⟨ns.length - (e' + 1), by omega, e' + 1, rfl, by omega, c, hN.1, hN.2, fun j j1 j2 => ?_⟩, ?_⟩
          · rcases Nat.lt_or_ge j e' with z | z
            · exact hj j j1 z
            · rw [show j = e' by omega, hy, eq]
          · refine ⟨_, rfl, e', 1, rfl, rfl, ?_, rfl⟩
            rw [Int.natCast_add]
            rfl
        · rw [eqv_no eq]
          have gt := grp_take be he hj (bd x hx)
          refine ⟨.ref M, rfl, .inl ⟨rfl, _, .inl (.inl e1)⟩, .ref a, rfl, _, rfl, a, us, _, vx, rfl, rfl, hS1, atI_nat hvx, _, rfl, _, rfl, _, _, rfl, rfl, vx, x, _, e' - b, rfl, by omega, kx, fun H2 u s2 hu => ⟨M, _, _, rfl, rfl, s2 _ _ e1, ?_, _, rfl, e', ws ++ [u], some (.int e'), be, he, rfl, upd_same, ?_, sameW (s1.trans s2) hM, fun z hz => ?_⟩⟩
          · rw [e2.len]
            refine line5 ?_
            have g1 := grp_len (ns.take b)
            show ((grp (ns.take b)).map mkRun).length ≤ 100000
            rw [List.length_map]
            rw [List.length_take] at g1
            omega
          · have : mkRuns (ns.take e') = mkRuns (ns.take b) ++ [mkRun (x, e' - b)] := by
              unfold mkRuns
              rw [gt, List.map_append]
              rfl
            rw [this]
            have t2 : Tups K H2 (upd H2 M (.lst (ws ++ [u]))) := (But.set (p := M)).tups (s2 _ _ e1)
            exact ((e2.up (.of s2)).up t2).app (.one (hu.up t2))
          · rw [hy] at hz
            cases hz
            have : (ns.take e').getLast? = some x := by
              rw [List.getLast?_eq_getElem?, List.length_take, List.getElem?_take, if_pos (by omega), show min e' ns.length - 1 = e' - 1 by omega]
              exact hj (e' - 1) (by omega) (by omega)
            rw [this]
            intro z
            exact eq (Option.some.inj z).symm
      · have d1 : decide ((e' : Int) < ((us.length : Nat) : Int)) = false := decide_eq_false (by omega)
        rw [d1]
        have gt := grp_take be he hj (bd x hx)
        refine ⟨.ref M, rfl, .inl ⟨rfl, _, .inl (.inl e1)⟩, .ref a, rfl, _, rfl, a, us, _, vx, rfl, rfl, hS1, atI_nat hvx, _, rfl, _, rfl, _, _, rfl, rfl, vx, x, _, e' - b, rfl, by omega, kx, fun H2 u s2 hu => ⟨M, _, _, rfl, rfl, s2 _ _ e1, ?_, _, rfl, e', ws ++ [u], some (.int e'), be, he, rfl, upd_same, ?_, sameW (s1.trans s2) hM, fun z hz => ?_⟩⟩
        · rw [e2.len]
          refine line5 ?_
          have g1 := grp_len (ns.take b)
          show ((grp (ns.take b)).map mkRun).length ≤ 100000
          rw [List.length_map]
          rw [List.length_take] at g1
          omega
        · have : mkRuns (ns.take e') = mkRuns (ns.take b) ++ [mkRun (x, e' - b)] := by
            unfold mkRuns
            rw [gt, List.map_append]
            rfl
          rw [this]
          have t2 : Tups K H2 (upd H2 M (.lst (ws ++ [u]))) := (But.set (p := M)).tups (s2 _ _ e1)
          exact ((e2.up (.of s2)).up t2).app (.one (hu.up t2))
        · rw [List.getElem?_eq_none_iff.mpr (by omega)] at hz
          cases hz
    · have hb' : b = ns.length := by
        have : ¬ (b : Int) < ((us.length : Nat) : Int) := fun z => e (decide_eq_true z)
        omega
      rw [hb', List.take_length] at e2
      refine ⟨.ref M, rfl, M, _, rfl, .inl ⟨.inl (.inl e1), fun t ht => q _ t _ (s1.trans (sameN ht)) upd_same (e2.up (.of (sameN ht)))⟩⟩
end
section
variable {P : Program} {w : World} {K : PySem.W.Frag} {mg : Str → Option Value} {base : Heap}
/-- tuples that hold the rows -/
def RowsV (K : PySem.W.Frag) (H : Hp) (r0 : List Nd) (ws : List V) (t : Nat) : Prop := ws.length = t ∧ ∀ (i : Nat) (v : V), ws[i]? = some v → ∃ (ra : Addr) (us : List V), v = .ref ra ∧ SqT K H ra us ∧ NdsV K H us (nx i r0)
theorem RowsV.nil {H : Hp} {r0 : List Nd} : RowsV K H r0 [] 0 := ⟨rfl, fun i v h => by simp at h⟩
theorem RowsV.up {H H' : Hp} {r0 : List Nd} {ws : List V} {t : Nat} (h : RowsV K H r0 ws t) (e : Tups K H H') : RowsV K H' r0 ws t := ⟨h.1, fun i v hv => by
  obtain ⟨ra, us, h1, h2, h3⟩ := h.2 i v hv
  exact ⟨ra, us, h1, e _ _ h2, h3.up e⟩⟩
theorem RowsV.app {H : Hp} {r0 : List Nd} {ws : List V} {t : Nat} {ra : Addr} {us : List V} (h : RowsV K H r0 ws t) (ht : SqT K H ra us) (hn : NdsV K H us (nx t r0)) : RowsV K H r0 (ws ++ [.ref ra]) (t + 1) := by
  refine ⟨by rw [List.length_append, h.1]; rfl, fun i v hv => ?_⟩
  by_cases c : i < ws.length
  · rw [List.getElem?_append_left c] at hv
    exact h.2 i v hv
  · rw [List.getElem?_append_right (by omega)] at hv
    have e0 : i - ws.length = 0 := by
      rcases Nat.eq_zero_or_pos (i - ws.length) with z' | z'
      · exact z'
      · rw [List.getElem?_eq_none_iff.mpr (by simp; omega)] at hv
        cases hv
    rw [e0] at hv
    have hv := Option.some.inj hv
    have e1 : i = t := by rw [← h.1]; omega
    rw [e1]
    exact ⟨ra, us, hv.symm, ht, hn⟩
theorem scRows : FnScope ["runs", "row", "rows", "element", "count"] ["runs"] (defScope sRows) := ⟨rfl, rfl, rfl, by decide +kernel, rfl, by decide +kernel, by decide +kernel⟩
def spRows (K : PySem.W.Frag) : Sp := fun vs H Q _ => ∃ (a : Addr) (ws : List V) (gs : List (Nd × Nat)), vs = [.ref a] ∧ SqT K H a ws ∧ PrsV K H ws gs ∧ Giv gs ∧ gs.length ≤ 300 ∧
  ∀ H' p us t, Same H H' → SqT K H' p us → RowsV K H' (gs.map mkRun) us t → Top (gs.map mkRun) t → Q (.ref p) H'
theorem row_of {H : Hp} {ra : Addr} {us : List V} {r0 : List Nd} {j : Nat} (lv : Lv r0 j) (hT : SqT K H ra us) (hn : NdsV K H us (nx j r0)) (h2 : 2 ≤ (nx j r0).length) : RowV K 16 H ra (nx j r0) := by
  have s := lv.small
  have s7 := lv.two h2
  refine ⟨us, j, hT, hn, lv.1, lv.2.1, wideL j (by omega), fun n hn => ?_, h2, by omega⟩
  have := ht_le n j (lv.1.mem n hn)
  split at this <;> omega
theorem ok_rows {f g1 g2 g3 : Addr} {fd e1 e2 e3 : FuncData} (F : Fun K "rows_of" "rows_of" sRows f fd) (B : FnOk P w K mg base CX0 23 g1 e1 ["row"] (spBlocks K 16)) (B' : Fun K "blocks" "blocks" sBlocks g1 e1) (gB : mg "blocks" = some (.ref g1)) (bB : Binds K e1 ["row"] [])
    (M : FnOk P w K mg base CX0 2 g2 e2 ["nodes"] (spMade K)) (M' : Fun K "made_runs" "made_runs" sMade g2 e2) (gM : mg "made_runs" = some (.ref g2)) (bM : Binds K e2 ["nodes"] [])
    (R : Fun K "run_of" "run_of" sRunOf g3 e3) (gR : mg "run_of" = some (.ref g3)) (bR : Binds K e3 ["node", "count"] []) (ml : mg "len" = none) (mt : mg "tuple" = none) : FnOk P w K mg base CX0 24 f fd ["runs"] (spRows K) := by
  have GR : FnOk P w K mg base CX0 1 g3 e3 ["node", "count"] (spRunOf K) := ok_runof R
  refine F.ok scRows (fun vs H Q E h => ?_) (fun cdv A outer s H vs Q E hr h => ?_)
  · obtain ⟨a, ws, gs, rfl, _⟩ := h
    rfl
  · obtain ⟨a, ws, gs, rfl, hT, hP, giv, l100, q⟩ := h
    have r1 := hr.mono (j := 1) (by omega)
    have r2 := hr.mono (j := 2) (by omega)
    refine ⟨_, pss_cons (ps_if (pt_cmpR op_eq (pe_callB call_len_seq (by rfl) ml PySem.boot_len (pa_cons (pv 0) pa_nil)) pe_int (nomark _)) (pss_one (ps_ret (pe_tup pa_nil))) pss_nil)
      (pss_cons (ps_set (i := 1) scRows.nd rfl (.inl rfl) (pe_callTy call_tuple_of (by rfl) mt PyProof.Rows.boot_tuple (pa_cons
          (pe_lc (own := [("element", 3), ("count", 4)]) (g := gTup K 2 (gCons (gName 3) (gCons (gName 4) gNil))) (tt := tYes) rfl scRows.nd (pi_tup (pv 0)) (blkOk_by (N := ["runs", "row", "rows", "element", "count"]) (sc := defScope sRows) (by decide +kernel))
            (fun _ _ _ _ _ => pg_tup rfl (pgs_cons (pg_name (i := 3) scRows.nd rfl (Or.inl rfl) (hf := Or.inr rfl)) (pgs_cons (pg_name (i := 4) scRows.nd rfl (Or.inl rfl) (hf := Or.inr rfl)) pgs_nil))) (fun _ _ _ _ _ => pts_nil)
            (fun _ _ _ _ _ => pe_call GR r1 (by rfl) gR R.kp bR .nil pass0 (pa_cons (pv 3) (pa_cons (pv 4) pa_nil)))) pa_nil)))
      (pss_cons (ps_set (i := 2) scRows.nd rfl (.inl rfl) (pe_lst (pa_cons (pv 1) pa_nil)))
      (pss_cons (ps_while PassesOwn.never (pt_cmpR op_gt (pe_callB call_len_seq (by rfl) ml PySem.boot_len (pa_cons (pv 1) pa_nil)) pe_int (nomark _))
        (pss_cons (ps_set (i := 1) scRows.nd rfl (.inl rfl) (pe_call M r2 (by rfl) gM M'.kp bM .nil pass0 (pa_cons (pe_call B hr (by rfl) gB B'.kp bB .nil pass0 (pa_cons (pv 1) pa_nil)) pa_nil)))
        (pss_one (ps_expr (pe_bm PySem.F.plainAttrs_list PySem.F.slot_list_append PySem.F.type_list_append mt_append (pv 2) (pa_cons (pv 1) pa_nil))))))
      (pss_one (ps_ret (pe_callTy call_tuple_of (by rfl) mt PyProof.Rows.boot_tuple (pa_cons (pv 2) pa_nil))))))), ?_⟩
    have hlw := PrsV.len hP
    refine ⟨.ref a, rfl, a, ws, rfl, .inr hT, rfl, _, rfl, ite2 (fun e => ?_) (fun e => ?_)⟩
    · have e0 : ((ws.length : Nat) : Int) = 0 := V.int.inj (of_decide_eq_true e)
      have e1 : gs = [] := List.eq_nil_of_length_eq_zero (by omega)
      subst e1
      exact ⟨(show 0 ≤ sizeLine from by decide), fun t nt => q _ t [] 0 (sameN nt) (.inl (.inl upd_same)) .nil (.inl ⟨rfl, rfl⟩)⟩
    have gne : gs ≠ [] := fun z => e (by
      have : ws.length = 0 := by rw [hlw, z]; rfl
      rw [this]
      rfl)
    refine ⟨.ref a, rfl, a, rfl, ⟨ws, hT⟩, fun D nD => ?_⟩
    refine lc_tup (xs := ws) (fun i H' => ∃ vs', H' D = some (.lst vs') ∧ NdsV K H' vs' ((gs.take i).map mkRun) ∧ Same H H') ⟨[], upd_same, .nil, sameN nD⟩ (fun i H' _ hp => ?_) (fun i u H' hu hp => ?_) (fun H1 hp => ?_)
    · obtain ⟨_, _, _, s1⟩ := hp
      exact sameT s1 hT
    · obtain ⟨vs', gD, dD, s1⟩ := hp
      obtain ⟨pr, ra, v, hpi, rfl, t1, t2⟩ := (PrsV.up (.of s1) hP).get hu
      have hil := (List.getElem?_eq_some_iff.mp hpi).1
      refine ⟨ra, _, rfl, t1, rfl, v, _, rfl, _, [], rfl, rfl, rfl, ?_⟩
      refine ⟨v, rfl, _, rfl, v, pr.1, _, pr.2, rfl, rfl, t2, fun H3 u3 s3 k3 => ⟨vs', s3 _ _ gD, ?_, vs' ++ [u3], upd_same, ?_, sameW (s1.trans s3) nD⟩⟩
      · rw [dD.len, List.length_map]
        exact line5 (small_take (by omega))
      · rw [take_more hpi, List.map_append]
        have t9 : Tups K H3 (upd H3 D (.lst (vs' ++ [u3]))) := (But.set (p := D)).tups (s3 _ _ gD)
        exact ((dD.up (.of s3)).up t9).app (.one (k3.up t9))
    obtain ⟨vs', gD, dD, s1⟩ := hp
    have full : gs.take ws.length = gs := List.take_of_length_le (by rw [hlw]; exact Nat.le_refl _)
    rw [full] at dD
    have lv0 := giv_row0 giv gne l100
    have rne : gs.map mkRun ≠ [] := fun z => gne (by simpa using z)
    generalize gs.map mkRun = r0 at q dD lv0 rne
    refine ⟨D, vs', rfl, .inl ⟨.inl (.inl gD), fun t nt => ⟨_, rfl, (show 1 ≤ sizeLine from by decide), fun L nL => ?_⟩⟩⟩
    have sL := sameN (o := .lst [V.ref t]) nL
    have st := (sameN (o := .tup vs') nt).trans sL
    refine ⟨fun m' σ H' => ∃ j ra us rv y3 y4, m' = (nx j r0).length ∧ (∀ i, i < j → 1 < (nx i r0).length) ∧ Lv r0 j ∧ σ = [some (.ref a), some (.ref ra), some (.ref L), y3, y4] ∧ SqT K H' ra us ∧ NdsV K H' us (nx j r0) ∧ H' L = some (.lst rv) ∧ RowsV K H' r0 rv (j + 1) ∧ Same H H',
      ⟨_, 0, t, vs', [.ref t], _, _, rfl, (fun i hi => absurd hi (Nat.not_lt_zero _)), lv0, rfl, .inl (.inl (sL _ _ upd_same)), dD.up (.of st), upd_same, ?_, s1.trans st⟩, ?_⟩
    · exact RowsV.nil.app (.inl (.inl (sL _ _ upd_same))) (dD.up (.of st))
    rintro m' σ H2 ⟨j, ra, us, rv, y3, y4, rfl, hj, lv, rfl, k1, k2, k3, k4, k5⟩
    have lus := k2.len
    refine ⟨.ref ra, rfl, ra, us, rfl, .inr k1, _, 1, rfl, rfl, _, rfl, ite2 (fun e => ?_) (fun e => ?_)⟩
    · have h2 : 2 ≤ (nx j r0).length := by
        have := of_decide_eq_true e
        omega
      have nxt := lv.next h2
      have sm := lv.small
      refine ⟨fun σ' H' => ∃ ra us rv y3 y4, Lv r0 (j + 1) ∧ σ' = [some (.ref a), some (.ref ra), some (.ref L), y3, y4] ∧ SqT K H' ra us ∧ NdsV K H' us (nx (j + 1) r0) ∧ H' L = some (.lst rv) ∧ RowsV K H' r0 rv (j + 1 + 1) ∧ Same H H', fun σ' H' hN => ?_, ?_⟩
      · obtain ⟨ra', us', rv', z3, z4, i1, i2⟩ := hN
        refine ⟨(nx (j + 1) r0).length, by omega, j + 1, ra', us', rv', z3, z4, rfl, fun i hi => ?_, i1, i2⟩
        rcases Nat.lt_or_ge i j with z | z
        · exact hj i z
        · have : i = j := by omega
          rw [this]
          exact h2
      · refine ⟨.ref ra, rfl, ra, nx j r0, rfl, row_of lv k1 k2 h2, fun H3 pb bs s3 hb kb => ?_⟩
        have okb := ok_pieces lv.1 lv.2.1 h2
        refine ⟨pb, bs, _, j + 1, rfl, hb, kb, okb, by omega, ?_, fun H4 pr rs s4 hr4 kr => ?_⟩
        · rw [List.length_map]
          have := pieces_fst_len h2
          omega
        have s34 := s3.trans s4
        have gL4 := s34 _ _ k3
        refine ⟨.ref L, rfl, .inl ⟨rfl, _, .inl (.inl gL4)⟩, .ref pr, rfl, L, _, _, rfl, rfl, gL4, line5 (by rw [k4.1]; omega), pr, rs, rv ++ [.ref pr], _, _, nxt.1, rfl, ?_, ?_, upd_same, ?_, sameW (k5.trans s34) (freeS (s1.trans (sameN nt)) nL)⟩
        all_goals have t9 : Tups K H4 (upd H4 L (.lst (rv ++ [.ref pr]))) := (But.set (p := L)).tups gL4
        · exact t9 _ _ (.inl (.inl hr4))
        · exact NdsV.up t9 kr
        · exact ((k4.up (.of s34)).up t9).app (t9 _ _ (.inl (.inl hr4))) (NdsV.up t9 kr)
    · have h1 : (nx j r0).length ≤ 1 := by
        have : ¬ (1 : Int) < ((us.length : Nat) : Int) := fun z => e (decide_eq_true z)
        omega
      exact ⟨.ref L, rfl, L, rv, rfl, .inl ⟨.inl (.inl k3), fun t2 n2 => q _ t2 rv (j + 1) (k5.trans (sameN n2)) (.inl (.inl upd_same)) (k4.up (.of (sameN n2))) (.inr ⟨rne, j, rfl, h1, hj⟩)⟩⟩
end
/-! ### the pairs at the bottom of a node -/
section
mutual
def prs : Nd → List (Nd × Nat)
  | .el n => [(.el n, 1)]
  | .run b c => match b with
    | .blk ps => (List.replicate c (prss ps)).flatten
    | .el n => [(.el n, c)]
    | .run _ _ => []
  | .blk ps => prss ps
def prss : List Nd → List (Nd × Nat)
  | [] => []
  | n :: r => prs n ++ prss r
end
theorem prss_app : ∀ (a b : List Nd), prss (a ++ b) = prss a ++ prss b
  | [], b => by simp [prss]
  | n :: r, b => by
    show prss (n :: (r ++ b)) = _
    rw [prss, prss, prss_app r b, List.append_assoc]
/-- blocks of pieces have the pairs of the row -/
theorem prss_pieces {ns : List Nd} : ∀ (zs : List (Nat × Nat)) (b n : Nat), M10.Cont b n zs → n ≤ ns.length → prss (zs.map fun z => Nd.blk (pce ns z)) = prss ((ns.take n).drop b)
  | [], b, n, h, _ => by
    have h : b = n := h
    subst h
    rw [List.drop_eq_nil_of_le (by rw [List.length_take]; omega)]
    rfl
  | z :: r, b, n, h, hl => by
    have ih := prss_pieces r z.2 n h.2.2.2 hl
    have hb := (M10.Cont.bnd h.2.2.2).1
    have h1 := h.1
    have h2 := h.2.1
    rw [List.map_cons, prss, ih]
    have e : (ns.take n).drop b = pce ns z ++ (ns.take n).drop z.2 := by
      unfold pce
      rw [h1]
      have e1 : ns.take z.2 = (ns.take n).take z.2 := by rw [List.take_take, Nat.min_eq_left hb]
      rw [e1]
      have e2 : (ns.take n).drop b = ((ns.take n).take z.2 ++ (ns.take n).drop z.2).drop b := by rw [List.take_append_drop]
      rw [e2, List.drop_append_of_le_length (by rw [List.length_take, List.length_take]; omega)]
    rw [e, prss_app]
    rfl
theorem prss_bks {ns : List Nd} (h : 2 ≤ ns.length) : prss (bks ns) = prss ns := by
  have := prss_pieces (ns := ns) (pieces ns) 0 ns.length (pieces_cont h) (Nat.le_refl _)
  rw [List.take_length, List.drop_zero] at this
  exact this
/-- runs of blocks have the pairs of the blocks -/
theorem prs_mkRun {p : Nd × Nat} (hb : p.1.isBlk = true) (h1 : 1 ≤ p.2) : prs (mkRun p) = (List.replicate p.2 (prs p.1)).flatten := by
  obtain ⟨n, c⟩ := p
  unfold mkRun
  split
  · rename_i e
    have e : c = 1 := e
    subst e
    simp
  · cases n with
    | blk ps => rw [prs, prs]
    | el n => cases hb
    | run b c => cases hb
theorem prss_grp : ∀ (k : Nat) (ns : List Nd), ns.length = k → (∀ n ∈ ns, n.isBlk = true) → prss ((grp ns).map mkRun) = prss ns
  | 0, ns, e, _ => by
    rw [List.eq_nil_of_length_eq_zero e]
    unfold grp
    rfl
  | k + 1, ns, e, hb => by
    rcases List.eq_nil_or_concat ns with rfl | ⟨r, n, rfl⟩
    · simp at e
    · rw [List.concat_eq_append] at *
      have ih := prss_grp k r (by simpa using e) fun x hx => hb x (by simp [hx])
      have bn := hb n (by simp)
      rw [grp_app, prss_app, ← ih]
      rcases List.eq_nil_or_concat (grp r) with z | ⟨i, ⟨m, c⟩, z⟩
      · rw [z, stepG_ne (fun m c hm => by cases hm)]
        show prss [mkRun (n, 1)] = _
        unfold mkRun
        simp [prss]
      · rw [List.concat_eq_append] at z
        rw [z]
        have hm := grp_foot r (m, c) (by rw [z]; simp)
        have bm := hb m (by have := hm.1; simp [this])
        by_cases em : m = n
        · subst em
          rw [stepG_eq, List.map_append, List.map_append, prss_app, prss_app, List.append_assoc]
          refine congrArg (fun x => prss (i.map mkRun) ++ x) ?_
          show prss [mkRun (m, c + 1)] = prss [mkRun (m, c)] ++ prss [m]
          simp only [prss, List.append_nil]
          rw [prs_mkRun (p := (m, c + 1)) bm (by simp), prs_mkRun (p := (m, c)) bm hm.2.1]
          show (List.replicate (c + 1) (prs m)).flatten = _
          rw [List.replicate_succ', List.flatten_append]
          simp
        · rw [stepG_ne (fun m' c' h => by
            rw [List.getLast?_append] at h
            have : m = m' ∧ c = c' := by simpa using h
            rw [← this.1]
            exact em), List.map_append, prss_app]
          refine congrArg (fun x => prss ((i ++ [(m, c)]).map mkRun) ++ x) ?_
          show prss [mkRun (n, 1)] = prss [n]
          unfold mkRun
          rfl
theorem prss_Nx {ns : List Nd} (h : 2 ≤ ns.length) : prss (Nx ns) = prss ns := by
  unfold Nx mkRuns
  rw [prss_grp _ _ rfl fun n hn => ?_, prss_bks h]
  obtain ⟨z, _, rfl⟩ := List.mem_map.mp hn
  rfl
theorem prss_row0 : ∀ {gs : List (Nd × Nat)}, (∀ p ∈ gs, ∃ k, p.1 = .el k) → prss (gs.map mkRun) = gs
  | [], _ => rfl
  | p :: r, h => by
    obtain ⟨k, e⟩ := h p List.mem_cons_self
    obtain ⟨n, c⟩ := p
    have e : n = .el k := e
    subst e
    rw [List.map_cons, prss, prss_row0 fun q hq => h q (List.mem_cons_of_mem _ hq)]
    unfold mkRun
    split
    · rename_i e1
      have e1 : c = 1 := e1
      subst e1
      rw [prs]
      rfl
    · rw [prs]
      rfl
/-- every row has the pairs of the sequence -/
theorem prss_nx {gs : List (Nd × Nat)} (h : ∀ p ∈ gs, ∃ k, p.1 = .el k) : ∀ j, (∀ i, i < j → 1 < (nx i (gs.map mkRun)).length) → prss (nx j (gs.map mkRun)) = gs
  | 0, _ => prss_row0 h
  | j + 1, k => by
    have := prss_nx h j fun i hi => k i (by omega)
    rw [nx, prss_Nx (k j (by omega)), this]
end
end C64

set_option Elab.async false
set_option linter.all false
set_option maxRecDepth 100000
namespace C64
open PySem PySem.Spec PyProof.Rows L2 Loc RZ
section
variable {P : Program} {w : World} {K : PySem.W.Frag} {mg : Str → Option Value} {base : Heap}
theorem scTree : FnScope ["runs", "rows"] ["runs"] (defScope sTree) := ⟨rfl, rfl, rfl, by decide +kernel, rfl, by decide +kernel, by decide +kernel⟩
theorem lv_all {r0 : List Nd} (h0 : Lv r0 0) : ∀ s, (∀ j, j < s → 1 < (nx j r0).length) → Lv r0 s
  | 0, _ => h0
  | s + 1, h => ((lv_all h0 s fun j hj => h j (by omega)).next (h s (by omega))).1
theorem one_node {r0 : List Nd} {s : Nat} (h : Lv r0 s) (h1 : (nx s r0).length ≤ 1) : ∃ n, nx s r0 = [n] := by
  match e : nx s r0, h1 with
  | [n], _ => exact ⟨n, rfl⟩
  | [], _ =>
    have := h.2.2.1
    rw [e] at this
    cases this
/-- the tree of the runs -/
def TreeV (K : PySem.W.Frag) (H : Hp) (v : V) (gs : List (Nd × Nat)) : Prop := (gs = [] ∧ v = .non) ∨ (gs ≠ [] ∧ ∃ n l, NdV K H v n ∧ Ok n l ∧ l ≤ 8 ∧ ht n < 18 ∧ prs n = gs)
theorem TreeV.up {H H' : Hp} {v : V} {gs : List (Nd × Nat)} (h : TreeV K H v gs) (e : Tups K H H') : TreeV K H' v gs := h.imp id fun ⟨z, n, l, h1, h2⟩ => ⟨z, n, l, h1.up e, h2⟩
/-- the node of the last row -/
def TreeX (K : PySem.W.Frag) (H : Hp) (v : V) (gs : List (Nd × Nat)) : Prop := (gs = [] ∧ v = .non) ∨ (gs ≠ [] ∧ ∃ n l, NdV K H v n ∧ Ok n l ∧ l ≤ 8 ∧ ht n < 18 ∧ prs n = gs ∧ nx l (gs.map mkRun) = [n] ∧ Top (gs.map mkRun) (l + 1))
theorem TreeX.up {H H' : Hp} {v : V} {gs : List (Nd × Nat)} (h : TreeX K H v gs) (e : Tups K H H') : TreeX K H' v gs := h.imp id fun ⟨z, n, l, h1, h2⟩ => ⟨z, n, l, h1.up e, h2⟩
theorem TreeX.weak {H : Hp} {v : V} {gs : List (Nd × Nat)} (h : TreeX K H v gs) : TreeV K H v gs := h.imp id fun ⟨z, n, l, h1, h2, h3, h4, h5, _⟩ => ⟨z, n, l, h1, h2, h3, h4, h5⟩
/-- equal contents have one tree -/
theorem TreeX.one {H H' : Hp} {v u : V} {gs : List (Nd × Nat)} (h : TreeX K H v gs) (k : TreeX K H' u gs) : (gs = [] ∧ v = .non ∧ u = .non) ∨ (gs ≠ [] ∧ ∃ n l, NdV K H v n ∧ NdV K H' u n ∧ Ok n l ∧ l ≤ 8 ∧ ht n < 18 ∧ prs n = gs) := by
  rcases h with ⟨z, e⟩ | ⟨z, n, l, h1, h2, h3, h4, h5, h6, h7⟩
  · rcases k with ⟨_, e2⟩ | ⟨z2, _⟩
    · exact .inl ⟨z, e, e2⟩
    · exact absurd z z2
  · rcases k with ⟨z2, _⟩ | ⟨_, n2, l2, k1, k2, k3, k4, k5, k6, k7⟩
    · exact absurd z2 z
    · have := h7.one k7
      have el : l2 = l := by omega
      subst el
      rw [h6] at k6
      have en : n = n2 := by simpa using k6
      subst en
      exact .inr ⟨z, n, _, h1, k1, h2, h3, h4, h5⟩
def spTreeX (K : PySem.W.Frag) : Sp := fun vs H Q _ => ∃ (a : Addr) (ws : List V) (gs : List (Nd × Nat)), vs = [.ref a] ∧ SqT K H a ws ∧ PrsV K H ws gs ∧ Giv gs ∧ gs.length ≤ 300 ∧ ∀ H' u, Same H H' → TreeX K H' u gs → Q u H'
def spTree (K : PySem.W.Frag) : Sp := fun vs H Q _ => ∃ (a : Addr) (ws : List V) (gs : List (Nd × Nat)), vs = [.ref a] ∧ SqT K H a ws ∧ PrsV K H ws gs ∧ Giv gs ∧ gs.length ≤ 300 ∧ ∀ H' u, Same H H' → TreeV K H' u gs → Q u H'
theorem ok_treeX {f g : Addr} {fd gd : FuncData} (F : Fun K "tree_of" "tree_of" sTree f fd) (G : FnOk P w K mg base CX0 24 g gd ["runs"] (spRows K)) (G' : Fun K "rows_of" "rows_of" sRows g gd) (gG : mg "rows_of" = some (.ref g)) (bG : Binds K gd ["runs"] []) (ml : mg "len" = none) : FnOk P w K mg base CX0 25 f fd ["runs"] (spTreeX K) := by
  refine F.ok scTree (fun vs H Q E h => ?_) (fun cdv A outer s H vs Q E hr h => ?_)
  · obtain ⟨a, ws, gs, rfl, _⟩ := h
    rfl
  · obtain ⟨a, ws, gs, rfl, hT, hP, giv, l300, q⟩ := h
    refine ⟨_, pss_cons (ps_set (i := 1) scTree.nd rfl (.inl rfl) (pe_call G hr (by rfl) gG G'.kp bG .nil pass0 (pa_cons (pv 0) pa_nil)))
      (pss_cons (ps_if (pt_cmpR op_eq (pe_callB call_len_seq (by rfl) ml PySem.boot_len (pa_cons (pv 1) pa_nil)) pe_int (nomark _)) (pss_one (ps_ret pe_non)) pss_nil)
      (pss_one (ps_ret (pe_ix ix_tup (pe_ix ix_tup (pv 1) (pe_un un_neg pe_int) (fun _ _ => rfl)) pe_int (fun _ _ => rfl))))), ?_⟩
    refine ⟨.ref a, rfl, a, ws, gs, rfl, hT, hP, giv, l300, fun H1 p us t s1 hp hR top => ?_⟩
    refine ⟨.ref p, rfl, p, us, rfl, .inr hp, rfl, _, rfl, ?_⟩
    have lus : us.length = t := hR.1
    rcases top with ⟨z, rfl⟩ | ⟨rne, s', rfl, h1, hj⟩
    · rw [decide_eq_true (show V.int ((us.length : Nat) : Int) = V.int 0 by rw [lus]; rfl)]
      exact iteT (q H1 _ s1 (.inl ⟨by simpa using z, rfl⟩))
    have gne : gs ≠ [] := fun z => rne (by rw [z]; rfl)
    have lv0 := giv_row0 giv gne l300
    have lv := lv_all lv0 s' hj
    obtain ⟨n, en⟩ := one_node lv h1
    have okn : Ok n s' := lv.1.mem n (by rw [en]; exact List.mem_cons_self)
    have pn : prs n = gs := by
      have := prss_nx (gs := gs) (fun p hp => by
        obtain ⟨⟨k, e, _⟩, _⟩ := giv.1 p hp
        exact ⟨k, e⟩) s' hj
      rw [en, prss, prss, List.append_nil] at this
      exact this
    obtain ⟨v, hv⟩ := get_of (l := us) (i := s') (by omega)
    obtain ⟨ra, xs, rfl, hra, hx⟩ := hR.2 s' v hv
    rw [en] at hx
    obtain ⟨u, q0, rfl, hu, _⟩ := hx.inv
    rw [decide_eq_false (show ¬ V.int ((us.length : Nat) : Int) = V.int 0 from fun z => by
      have := V.int.inj z
      omega)]
    refine iteF ⟨.ref p, rfl, 1, rfl, p, us, -1, .ref ra, rfl, rfl, hp, ?_, ra, _, 0, u, rfl, rfl, hra, atI_nat (j := 0) rfl, q H1 u s1 (.inr ⟨gne, n, s', hu, okn, lv.small.1, ?_, pn, en, .inr ⟨rne, s', rfl, h1, hj⟩⟩)⟩
    · rcases List.eq_nil_or_concat us with e1 | ⟨init, y, e1⟩
      · rw [e1] at lus
        cases lus
      · rw [e1, List.concat_eq_append] at hv lus ⊢
        rw [List.length_append] at lus
        have li : init.length = s' := by simpa using lus
        rw [List.getElem?_append_right (by omega), li, Nat.sub_self] at hv
        rw [Option.some.inj hv]
        exact atI_last _ _
    · have := ht_le n s' okn
      have := lv.small.1
      split at * <;> omega
theorem fn_to {k : Nat} {f : Addr} {fd : FuncData} {ps : List Str} {s1 s2 : Sp} (F : FnOk P w K mg base CX0 k f fd ps s1) (h : ∀ vs H Q E, s2 vs H Q E → s1 vs H Q E) : FnOk P w K mg base CX0 k f fd ps s2 :=
  ⟨fun vs H Q E g => F.len vs H Q E (h _ _ _ _ g), fun A outer s H args us vs Q E a b c d g => F.run A outer s H args us vs Q E a b c d (h _ _ _ _ g)⟩
theorem ok_tree {f g : Addr} {fd gd : FuncData} (F : Fun K "tree_of" "tree_of" sTree f fd) (G : FnOk P w K mg base CX0 24 g gd ["runs"] (spRows K)) (G' : Fun K "rows_of" "rows_of" sRows g gd) (gG : mg "rows_of" = some (.ref g)) (bG : Binds K gd ["runs"] []) (ml : mg "len" = none) : FnOk P w K mg base CX0 25 f fd ["runs"] (spTree K) :=
  fn_to (ok_treeX F G G' gG bG ml) fun vs H Q E ⟨a, ws, gs, e, h1, h2, h3, h4, h5⟩ => ⟨a, ws, gs, e, h1, h2, h3, h4, fun H' u s k => h5 H' u s k.weak⟩
end
section
variable {P : Program} {w : World} {K : PySem.W.Frag} {mg : Str → Option Value} {base : Heap}
/-- two promises of one def -/
theorem fn_or {k : Nat} {f : Addr} {fd : FuncData} {ps : List Str} {s1 s2 : Sp} (F : FnOk P w K mg base CX0 k f fd ps s1) (G : FnOk P w K mg base CX0 k f fd ps s2) : FnOk P w K mg base CX0 k f fd ps (fun vs H Q E => s1 vs H Q E ∨ s2 vs H Q E) :=
  ⟨fun vs H Q E h => h.elim (F.len vs H Q E) (G.len vs H Q E), fun A outer s H args us vs Q E a b c d h => h.elim (F.run A outer s H args us vs Q E a b c d) (G.run A outer s H args us vs Q E a b c d)⟩
end
set_option maxHeartbeats 0 in
structure Facts (K : PySem.W.Frag) (mg : Str → Option Value) where
  {uwall : Addr} {vwall : FuncData}
  fwall : Fun K "_wall" "_wall" s__wall uwall vwall
  gwall : mg "_wall" = some (.ref uwall)
  bwall : Binds K vwall ["k"] []
  {uis_whole : Addr} {vis_whole : FuncData}
  fis_whole : Fun K "is_whole" "is_whole" sWhole uis_whole vis_whole
  gis_whole : mg "is_whole" = some (.ref uis_whole)
  bis_whole : Binds K vis_whole ["value"] []
  {uis_element : Addr} {vis_element : FuncData}
  fis_element : Fun K "is_element" "is_element" sElement uis_element vis_element
  gis_element : mg "is_element" = some (.ref uis_element)
  bis_element : Binds K vis_element ["value"] []
  {uis_count : Addr} {vis_count : FuncData}
  fis_count : Fun K "is_count" "is_count" sCount uis_count vis_count
  gis_count : mg "is_count" = some (.ref uis_count)
  bis_count : Binds K vis_count ["value", "least"] []
  {uis_run : Addr} {vis_run : FuncData}
  fis_run : Fun K "is_run" "is_run" sIsRun uis_run vis_run
  gis_run : mg "is_run" = some (.ref uis_run)
  bis_run : Binds K vis_run ["value"] []
  {uis_block : Addr} {vis_block : FuncData}
  fis_block : Fun K "is_block" "is_block" sIsBlk uis_block vis_block
  gis_block : mg "is_block" = some (.ref uis_block)
  bis_block : Binds K vis_block ["value"] []
  {ubase_of : Addr} {vbase_of : FuncData}
  fbase_of : Fun K "base_of" "base_of" sBase ubase_of vbase_of
  gbase_of : mg "base_of" = some (.ref ubase_of)
  bbase_of : Binds K vbase_of ["node"] []
  {urun_of : Addr} {vrun_of : FuncData}
  frun_of : Fun K "run_of" "run_of" sRunOf urun_of vrun_of
  grun_of : mg "run_of" = some (.ref urun_of)
  brun_of : Binds K vrun_of ["node", "count"] []
  {ufit_together : Addr} {vfit_together : FuncData}
  ffit_together : Fun K "_fit_together" "_fit_together" sFit ufit_together vfit_together
  gfit_together : mg "_fit_together" = some (.ref ufit_together)
  bfit_together : Binds K vfit_together ["nodes"] []
  {ulevel_of : Addr} {vlevel_of : FuncData}
  flevel_of : Fun K "level_of" "level_of" sLevel ulevel_of vlevel_of
  glevel_of : mg "level_of" = some (.ref ulevel_of)
  blevel_of : Binds K vlevel_of ["node"] []
  {usize_of : Addr} {vsize_of : FuncData}
  fsize_of : Fun K "size_of" "size_of" sSize usize_of vsize_of
  gsize_of : mg "size_of" = some (.ref usize_of)
  bsize_of : Binds K vsize_of ["node"] []
  {utext_of : Addr} {vtext_of : FuncData}
  ftext_of : Fun K "text_of" "text_of" sText utext_of vtext_of
  gtext_of : mg "text_of" = some (.ref utext_of)
  btext_of : Binds K vtext_of ["node"] []
  {unode_with : Addr} {vnode_with : FuncData}
  fnode_with : Fun K "node_with" "node_with" s_node_with unode_with vnode_with
  gnode_with : mg "node_with" = some (.ref unode_with)
  bnode_with : Binds K vnode_with ["text"] []
  {uclosed : Addr} {vclosed : FuncData}
  fclosed : Fun K "_closed" "_closed" s__closed uclosed vclosed
  gclosed : mg "_closed" = some (.ref uclosed)
  bclosed : Binds K vclosed ["parts"] []
  {uread_element : Addr} {vread_element : FuncData}
  fread_element : Fun K "_read_element" "_read_element" s__read_element uread_element vread_element
  gread_element : mg "_read_element" = some (.ref uread_element)
  bread_element : Binds K vread_element ["text", "at"] []
  {uread_count : Addr} {vread_count : FuncData}
  fread_count : Fun K "_read_count" "_read_count" s__read_count uread_count vread_count
  gread_count : mg "_read_count" = some (.ref uread_count)
  bread_count : Binds K vread_count ["node", "text", "at"] []
  {udigits_end : Addr} {vdigits_end : FuncData}
  fdigits_end : Fun K "_digits_end" "_digits_end" s__digits_end udigits_end vdigits_end
  gdigits_end : mg "_digits_end" = some (.ref udigits_end)
  bdigits_end : Binds K vdigits_end ["text", "at"] []
  {uwhole_with : Addr} {vwhole_with : FuncData}
  fwhole_with : Fun K "whole_with" "whole_with" s_whole_with uwhole_with vwhole_with
  gwhole_with : mg "whole_with" = some (.ref uwhole_with)
  bwhole_with : Binds K vwhole_with ["text", "most"] []
  {ufirst_marks : Addr} {vfirst_marks : FuncData}
  ffirst_marks : Fun K "first_marks" "first_marks" sFirst ufirst_marks vfirst_marks
  gfirst_marks : mg "first_marks" = some (.ref ufirst_marks)
  bfirst_marks : Binds K vfirst_marks ["row"] []
  {ufirst_mark : Addr} {vfirst_mark : FuncData}
  ffirst_mark : Fun K "_first_mark" "_first_mark" sFM ufirst_mark vfirst_mark
  gfirst_mark : mg "_first_mark" = some (.ref ufirst_mark)
  bfirst_mark : Binds K vfirst_mark ["texts", "place"] []
  {ufirst_unlike : Addr} {vfirst_unlike : FuncData}
  ffirst_unlike : Fun K "_first_unlike" "_first_unlike" sFU ufirst_unlike vfirst_unlike
  gfirst_unlike : mg "_first_unlike" = some (.ref ufirst_unlike)
  bfirst_unlike : Binds K vfirst_unlike ["one", "other"] []
  {ucode_at : Addr} {vcode_at : FuncData}
  fcode_at : Fun K "_code_at" "_code_at" sCodeAt ucode_at vcode_at
  gcode_at : mg "_code_at" = some (.ref ucode_at)
  bcode_at : Binds K vcode_at ["text", "at"] []
  {unext_marks : Addr} {vnext_marks : FuncData}
  fnext_marks : Fun K "next_marks" "next_marks" sNext unext_marks vnext_marks
  gnext_marks : mg "next_marks" = some (.ref unext_marks)
  bnext_marks : Binds K vnext_marks ["some"] []
  {unext_mark : Addr} {vnext_mark : FuncData}
  fnext_mark : Fun K "_next_mark" "_next_mark" sNm unext_mark vnext_mark
  gnext_mark : mg "_next_mark" = some (.ref unext_mark)
  bnext_mark : Binds K vnext_mark ["some", "place"] []
  {umarks : Addr} {vmarks : FuncData}
  fmarks : Fun K "marks" "marks" sMarks umarks vmarks
  gmarks : mg "marks" = some (.ref umarks)
  bmarks : Binds K vmarks ["row"] []
  {upeaks : Addr} {vpeaks : FuncData}
  fpeaks : Fun K "peaks" "peaks" sPeaks upeaks vpeaks
  gpeaks : mg "peaks" = some (.ref upeaks)
  bpeaks : Binds K vpeaks ["row"] []
  {ucuts : Addr} {vcuts : FuncData}
  fcuts : Fun K "cuts" "cuts" sCuts ucuts vcuts
  gcuts : mg "cuts" = some (.ref ucuts)
  bcuts : Binds K vcuts ["row"] []
  {ublocks : Addr} {vblocks : FuncData}
  fblocks : Fun K "blocks" "blocks" sBlocks ublocks vblocks
  gblocks : mg "blocks" = some (.ref ublocks)
  bblocks : Binds K vblocks ["row"] []
  {umade_runs : Addr} {vmade_runs : FuncData}
  fmade_runs : Fun K "made_runs" "made_runs" sMade umade_runs vmade_runs
  gmade_runs : mg "made_runs" = some (.ref umade_runs)
  bmade_runs : Binds K vmade_runs ["nodes"] []
  {uis_runs : Addr} {vis_runs : FuncData}
  fis_runs : Fun K "is_runs" "is_runs" sIsRuns uis_runs vis_runs
  gis_runs : mg "is_runs" = some (.ref uis_runs)
  bis_runs : Binds K vis_runs ["value"] []
  {uis_pair : Addr} {vis_pair : FuncData}
  fis_pair : Fun K "_is_pair" "_is_pair" sIsPair uis_pair vis_pair
  gis_pair : mg "_is_pair" = some (.ref uis_pair)
  bis_pair : Binds K vis_pair ["value"] []
  {urows_of : Addr} {vrows_of : FuncData}
  frows_of : Fun K "rows_of" "rows_of" sRows urows_of vrows_of
  grows_of : mg "rows_of" = some (.ref urows_of)
  brows_of : Binds K vrows_of ["runs"] []
  {utree_of : Addr} {vtree_of : FuncData}
  ftree_of : Fun K "tree_of" "tree_of" sTree utree_of vtree_of
  gtree_of : mg "tree_of" = some (.ref utree_of)
  btree_of : Binds K vtree_of ["runs"] []
  {umelted : Addr} {vmelted : FuncData}
  fmelted : Fun K "melted" "melted" s_melted umelted vmelted
  gmelted : mg "melted" = some (.ref umelted)
  bmelted : Binds K vmelted ["pieces"] []
  {ulength_of : Addr} {vlength_of : FuncData}
  flength_of : Fun K "length_of" "length_of" sLenOf ulength_of vlength_of
  glength_of : mg "length_of" = some (.ref ulength_of)
  blength_of : Binds K vlength_of ["tree"] []
  {urun_count : Addr} {vrun_count : FuncData}
  frun_count : Fun K "run_count" "run_count" sCnt urun_count vrun_count
  grun_count : mg "run_count" = some (.ref urun_count)
  brun_count : Binds K vrun_count ["tree"] []
  {uruns_of : Addr} {vruns_of : FuncData}
  fruns_of : Fun K "runs_of" "runs_of" sRunsOf uruns_of vruns_of
  gruns_of : mg "runs_of" = some (.ref uruns_of)
  bruns_of : Binds K vruns_of ["tree"] []
  {upairs_of : Addr} {vpairs_of : FuncData}
  fpairs_of : Fun K "_pairs_of" "_pairs_of" sPairs upairs_of vpairs_of
  gpairs_of : mg "_pairs_of" = some (.ref upairs_of)
  bpairs_of : Binds K vpairs_of ["tree"] []
  {uspliced : Addr} {vspliced : FuncData}
  fspliced : Fun K "spliced" "spliced" s_spliced uspliced vspliced
  gspliced : mg "spliced" = some (.ref uspliced)
  bspliced : Binds K vspliced ["tree", "start", "stop", "runs"] []
  {upart : Addr} {vpart : FuncData}
  fpart : Fun K "part" "part" s_part upart vpart
  gpart : mg "part" = some (.ref upart)
  bpart : Binds K vpart ["tree", "start", "stop"] []
  {ujoined : Addr} {vjoined : FuncData}
  fjoined : Fun K "joined" "joined" s_joined ujoined vjoined
  gjoined : mg "joined" = some (.ref ujoined)
  bjoined : Binds K vjoined ["one", "other"] []
  {ucheck_range : Addr} {vcheck_range : FuncData}
  fcheck_range : Fun K "_check_range" "_check_range" s__check_range ucheck_range vcheck_range
  gcheck_range : mg "_check_range" = some (.ref ucheck_range)
  bcheck_range : Binds K vcheck_range ["tree", "start", "stop"] []
  {upairs_between : Addr} {vpairs_between : FuncData}
  fpairs_between : Fun K "_pairs_between" "_pairs_between" s__pairs_between upairs_between vpairs_between
  gpairs_between : mg "_pairs_between" = some (.ref upairs_between)
  bpairs_between : Binds K vpairs_between ["pairs", "start", "stop"] []
  {utree_of_pieces : Addr} {vtree_of_pieces : FuncData}
  ftree_of_pieces : Fun K "_tree_of_pieces" "_tree_of_pieces" s__tree_of_pieces utree_of_pieces vtree_of_pieces
  gtree_of_pieces : mg "_tree_of_pieces" = some (.ref utree_of_pieces)
  btree_of_pieces : Binds K vtree_of_pieces ["pieces"] []
  {urepeated : Addr} {vrepeated : FuncData}
  frepeated : Fun K "repeated" "repeated" s_repeated urepeated vrepeated
  grepeated : mg "repeated" = some (.ref urepeated)
  brepeated : Binds K vrepeated ["runs", "times"] []
  {uwith_runs : Addr} {vwith_runs : FuncData}
  fwith_runs : Fun K "_with_runs" "_with_runs" s__with_runs uwith_runs vwith_runs
  gwith_runs : mg "_with_runs" = some (.ref uwith_runs)
  bwith_runs : Binds K vwith_runs ["head", "period", "times", "tail"] []
  {ucut : Addr} {vcut : FuncData}
  fcut : Fun K "_cut" "_cut" s__cut ucut vcut
  gcut : mg "_cut" = some (.ref ucut)
  bcut : Binds K vcut ["head", "period", "times", "tail"] []
  {ushow_runs : Addr} {vshow_runs : FuncData}
  fshow_runs : Fun K "show_runs" "show_runs" s_show_runs ushow_runs vshow_runs
  gshow_runs : mg "show_runs" = some (.ref ushow_runs)
  bshow_runs : Binds K vshow_runs ["runs"] []
  {uruns_with : Addr} {vruns_with : FuncData}
  fruns_with : Fun K "runs_with" "runs_with" s_runs_with uruns_with vruns_with
  gruns_with : mg "runs_with" = some (.ref uruns_with)
  bruns_with : Binds K vruns_with ["text"] []
  {upair_with : Addr} {vpair_with : FuncData}
  fpair_with : Fun K "_pair_with" "_pair_with" s__pair_with upair_with vpair_with
  gpair_with : mg "_pair_with" = some (.ref upair_with)
  bpair_with : Binds K vpair_with ["word"] []
  {uis_name : Addr} {vis_name : FuncData}
  fis_name : Fun K "is_name" "is_name" s_is_name uis_name vis_name
  gis_name : mg "is_name" = some (.ref uis_name)
  bis_name : Binds K vis_name ["value"] []
  {ucheck_name : Addr} {vcheck_name : FuncData}
  fcheck_name : Fun K "_check_name" "_check_name" s__check_name ucheck_name vcheck_name
  gcheck_name : mg "_check_name" = some (.ref ucheck_name)
  bcheck_name : Binds K vcheck_name ["value"] []
  {ucheck_runs : Addr} {vcheck_runs : FuncData}
  fcheck_runs : Fun K "_check_runs" "_check_runs" s__check_runs ucheck_runs vcheck_runs
  gcheck_runs : mg "_check_runs" = some (.ref ucheck_runs)
  bcheck_runs : Binds K vcheck_runs ["value"] []
  {utrees_with : Addr} {vtrees_with : FuncData}
  ftrees_with : Fun K "_trees_with" "_trees_with" s__trees_with utrees_with vtrees_with
  gtrees_with : mg "_trees_with" = some (.ref utrees_with)
  btrees_with : Binds K vtrees_with ["text"] []
  {ul_pot : Addr} {vl_pot : FuncData}
  fl_pot : Fun K "_law_pot" "_law_pot" sPot ul_pot vl_pot
  gl_pot : mg "_law_pot" = some (.ref ul_pot)
  bl_pot : Binds K vl_pot ["script", "k"] []
  {ul_take : Addr} {vl_take : FuncData}
  fl_take : Fun K "_law_take" "_law_take" sTake ul_take vl_take
  gl_take : mg "_law_take" = some (.ref ul_take)
  bl_take : Binds K vl_take ["pot", "bound"] []
  {ul_of : Addr} {vl_of : FuncData}
  fl_of : Fun K "_law_of" "_law_of" sOf ul_of vl_of
  gl_of : mg "_law_of" = some (.ref ul_of)
  bl_of : Binds K vl_of ["pot", "some"] []
  {ul_sequence : Addr} {vl_sequence : FuncData}
  fl_sequence : Fun K "_law_sequence" "_law_sequence" sSeq ul_sequence vl_sequence
  gl_sequence : mg "_law_sequence" = some (.ref ul_sequence)
  bl_sequence : Binds K vl_sequence ["pot", "most"] []
  {ul_runs : Addr} {vl_runs : FuncData}
  fl_runs : Fun K "_law_runs" "_law_runs" sLRuns ul_runs vl_runs
  gl_runs : mg "_law_runs" = some (.ref ul_runs)
  bl_runs : Binds K vl_runs ["some"] []
  {ul_wide : Addr} {vl_wide : FuncData}
  fl_wide : Fun K "_law_wide" "_law_wide" sWide ul_wide vl_wide
  gl_wide : mg "_law_wide" = some (.ref ul_wide)
  bl_wide : Binds K vl_wide ["pot", "most"] []
  {ul_text : Addr} {vl_text : FuncData}
  fl_text : Fun K "_law_text" "_law_text" sLText ul_text vl_text
  gl_text : mg "_law_text" = some (.ref ul_text)
  bl_text : Binds K vl_text ["node"] []
  {ul_first : Addr} {vl_first : FuncData}
  fl_first : Fun K "_law_first" "_law_first" sLFirst ul_first vl_first
  gl_first : mg "_law_first" = some (.ref ul_first)
  bl_first : Binds K vl_first ["row"] []
  {ul_round : Addr} {vl_round : FuncData}
  fl_round : Fun K "_law_round" "_law_round" sRound ul_round vl_round
  gl_round : mg "_law_round" = some (.ref ul_round)
  bl_round : Binds K vl_round ["some"] []
  {ul_marks : Addr} {vl_marks : FuncData}
  fl_marks : Fun K "_law_marks" "_law_marks" sLMarks ul_marks vl_marks
  gl_marks : mg "_law_marks" = some (.ref ul_marks)
  bl_marks : Binds K vl_marks ["row"] []
  {ul_pieces : Addr} {vl_pieces : FuncData}
  fl_pieces : Fun K "_law_pieces" "_law_pieces" sLPieces ul_pieces vl_pieces
  gl_pieces : mg "_law_pieces" = some (.ref ul_pieces)
  bl_pieces : Binds K vl_pieces ["row"] []
  {ul_joined : Addr} {vl_joined : FuncData}
  fl_joined : Fun K "_law_joined" "_law_joined" sJoined ul_joined vl_joined
  gl_joined : mg "_law_joined" = some (.ref ul_joined)
  bl_joined : Binds K vl_joined ["nodes"] []
  {ul_rows : Addr} {vl_rows : FuncData}
  fl_rows : Fun K "_law_rows" "_law_rows" sLRows ul_rows vl_rows
  gl_rows : mg "_law_rows" = some (.ref ul_rows)
  bl_rows : Binds K vl_rows ["given"] []
  {ul_tree : Addr} {vl_tree : FuncData}
  fl_tree : Fun K "_law_tree" "_law_tree" sLTree ul_tree vl_tree
  gl_tree : mg "_law_tree" = some (.ref ul_tree)
  bl_tree : Binds K vl_tree ["given"] []
  {ul_name : Addr} {vl_name : FuncData}
  fl_name : Fun K "_law_name" "_law_name" s__law_name ul_name vl_name
  gl_name : mg "_law_name" = some (.ref ul_name)
  bl_name : Binds K vl_name ["pot"] []
  {ul_caught : Addr} {vl_caught : FuncData}
  fl_caught : Fun K "_law_caught" "_law_caught" s__law_caught ul_caught vl_caught
  gl_caught : mg "_law_caught" = some (.ref ul_caught)
  bl_caught : Binds K vl_caught ["ask"] []
  {tDIGITS : Tok}
  DIGITS : mg "DIGITS" = some (.str "0123456789" tDIGITS)
  {tMOST_DIGITS : Tok}
  MOST_DIGITS : mg "MOST_DIGITS" = some (.int 61 tMOST_DIGITS)
  {tSIGNS : Tok}
  SIGNS : mg "SIGNS" = some (.str "0123456789 ()^" tSIGNS)
  {tENDED : Tok}
  ENDED : mg "ENDED" = some (.int 14 tENDED)
  {tMOST_RUNS : Tok}
  MOST_RUNS : mg "MOST_RUNS" = some (.int 300 tMOST_RUNS)
  {tLEFT_OF_PEAK : Tok}
  LEFT_OF_PEAK : mg "LEFT_OF_PEAK" = some (.int 6 tLEFT_OF_PEAK)
  {tSHOWN : Tok}
  SHOWN : mg "SHOWN" = some (.int 6 tSHOWN)
  {tEMPTY : Tok}
  EMPTY : mg "EMPTY" = some (.str "-" tEMPTY)
  {tLETTERS : Tok}
  LETTERS : mg "LETTERS" = some (.str "abcdefghijklmnopqrstuvwxyz" tLETTERS)
  {tLONGEST_NAME : Tok}
  LONGEST_NAME : mg "LONGEST_NAME" = some (.int 8 tLONGEST_NAME)
  {tMOST_REPEATED_RUNS : Tok}
  MOST_REPEATED_RUNS : mg "MOST_REPEATED_RUNS" = some (.int 40 tMOST_REPEATED_RUNS)
  ValueError : mg "ValueError" = none
  abs : mg "abs" = none
  all : mg "all" = none
  bool : mg "bool" = none
  classmethod : mg "classmethod" = none
  dict : mg "dict" = none
  enumerate : mg "enumerate" = none
  int : mg "int" = none
  isinstance : mg "isinstance" = none
  len : mg "len" = none
  list : mg "list" = none
  max : mg "max" = none
  min : mg "min" = none
  property : mg "property" = none
  range : mg "range" = none
  repr : mg "repr" = none
  sorted : mg "sorted" = none
  str : mg "str" = none
  sum : mg "sum" = none
  tuple : mg "tuple" = none
  zip : mg "zip" = none

/-! ### the trees of the program -/
section
variable {P : Program} {w : World} {K : PySem.W.Frag} {mg : Str → Option Value} {base : Heap}
theorem base_blocks (X : Facts K mg) : FnOk P w K mg base CX0 23 X.ublocks X.vblocks ["row"] (spBlocks K 16) := by
  have GF : FnOk P w K mg base CX0 19 X.ufirst_marks X.vfirst_marks ["row"] (spFirst K 16) := ok_first (m := 16) X.ffirst_marks
    { A := X.fis_run, C := X.fis_block, X := X.ftext_of, F1 := X.ffirst_mark, F2 := X.ffirst_unlike, F3 := X.fcode_at, gA := X.gis_run, gC := X.gis_block, gX := X.gtext_of, gF1 := X.gfirst_mark, gF2 := X.gfirst_unlike, gF3 := X.gcode_at, bA := X.bis_run, bC := X.bis_block, bX := X.btext_of, bF1 := X.bfirst_mark, bF2 := X.bfirst_unlike, bF3 := X.bcode_at,
      SIGNS := X.SIGNS, ENDED := X.ENDED, len := X.len, tuple := X.tuple, range := X.range, isinstance := X.isinstance, str := X.str }
  have G1 : FnOk P w K mg base CX0 2 X.unext_marks X.vnext_marks ["some"] (spNext K) := ok_next X.fnext_marks X.fnext_mark X.gnext_mark X.bnext_mark X.len X.range X.tuple
  have G3 := ok_marks (m := 16) X.fmarks GF X.ffirst_marks X.gfirst_marks X.bfirst_marks G1 X.fnext_marks X.gnext_marks X.bnext_marks X.range
  have G4 := ok_peaks (m := 16) X.fpeaks G3 X.fmarks X.gmarks X.bmarks X.range X.len X.tuple
  have G5 := ok_cuts (m := 16) X.fcuts G4 X.fpeaks X.gpeaks X.bpeaks X.range X.len X.tuple X.zip X.list
  exact ok_blocks (m := 16) X.fblocks G5 X.fcuts X.gcuts X.bcuts X.len X.tuple X.zip
theorem base_rows (X : Facts K mg) : FnOk P w K mg base CX0 24 X.urows_of X.vrows_of ["runs"] (spRows K) :=
  ok_rows X.frows_of (base_blocks X) X.fblocks X.gblocks X.bblocks (ok_made X.fmade_runs X.frun_of X.grun_of X.brun_of X.len X.tuple) X.fmade_runs X.gmade_runs X.bmade_runs X.frun_of X.grun_of X.brun_of X.len X.tuple
theorem base_tree (X : Facts K mg) : FnOk P w K mg base CX0 25 X.utree_of X.vtree_of ["runs"] (spTree K) :=
  ok_tree X.ftree_of (base_rows X) X.frows_of X.grows_of X.brows_of X.len
theorem base_treeX (X : Facts K mg) : FnOk P w K mg base CX0 25 X.utree_of X.vtree_of ["runs"] (spTreeX K) :=
  ok_treeX X.ftree_of (base_rows X) X.frows_of X.grows_of X.brows_of X.len
end
end C64

set_option Elab.async false
set_option linter.all false
set_option maxRecDepth 100000
set_option maxHeartbeats 4000000
namespace Loc
open PySem PySem.Spec PyProof.Rows L2
theorem tuple_mul1 (l : Addr) (items : Array Value) (n : Nat) (dd : Option Addr) (sl : Array (Option Value)) (u : Tok) :
    Meets (Builtin.«tuple.__mul__» ⟨[.ref l, .int 1 u], []⟩) (fun _ R s => s.heap.get? l = some { cls := .type "tuple", dict := dd, data := .seq items n, slots := sl } ∧ R (.ok (.ret (Value.ref l))) s) :=
  .of_wp fun prog w A R s h => by
    obtain ⟨hp, g, d, tk, os⟩ := s
    obtain ⟨hl, h⟩ := h
    have f1 := AutoSeq1.idx_int
    wp_walk using wpAny_loadPart' hl
    exact ⟨_, rfl, h⟩
def rRepT1 (K : PySem.W.Frag) : R2 := fun x y H Q => ∃ l k xs, x = .ref l ∧ y = .int k ∧ SqT K H l xs ∧ xs ≠ [] ∧ 1 ≤ k ∧ k ≤ 1000 ∧ xs.length ≤ 1000 ∧ ∀ H' p, Same H H' → SqT K H' p (List.replicate k.toNat xs).flatten → Q (.ref p) H'
theorem op_repT1 {X : Cx} : OpR X (binaryOp .Mult) (rRepT1 X.K) := by
  intro pins s σ H x y v u Q I rx ry h
  obtain ⟨l, k, xs, rfl, rfl, hT, hne, h1, h2, hz, q⟩ := h
  by_cases k1 : k = 1
  · subst k1
    cases rx
    obtain ⟨t, rfl⟩ := ry
    obtain ⟨its, r, ⟨⟨cls, dd, data, sl⟩, ho, hc, n, hd⟩, hs⟩ := I.tuple hT
    simp only at hc hd
    subst hc hd
    refine wpAny_binaryOp_repeat_ref (T := "tuple") (U := "int") (by decide) ⟨_, ho, rfl⟩ (fun s' => typeIs_int s' 1 t) noFill_tuple_mul PySem.F.fills_int_mul PySem.F.slot_int_rmul repeat_tuple PySem.F.slot_int_index.lookup
      (call_meets PySem.F.slot_int_rmul (typeIs_int s 1 t) PySem.F.entry_int_rmul (PySem.F.args_int_rmul_2 _ _) (int_rmul_tuple 1 t l its.toArray n dd sl)
        ⟨ho, rfl, ⟨_, ho, rfl⟩, call_meets PySem.F.slot_tuple_mul ⟨_, ho, rfl⟩ PySem.F.entry_tuple_mul (PySem.F.args_tuple_mul_2 _ _) (tuple_mul1 l its.toArray n dd sl t) ⟨ho, ?_⟩⟩)
    refine ⟨.ref l, H, I, rfl, q H l (Same.refl H) ?_⟩
    rw [show (1 : Int).toNat = 1 from rfl]
    simpa using hT
  · exact op_repT pins s σ H _ _ v u Q I rx ry ⟨l, k, xs, rfl, rfl, hT, hne, by omega, h2, hz, fun p hp => q _ p (sameN hp) (.inl (.inl upd_same))⟩
end Loc

set_option Elab.async false
set_option linter.all false
set_option maxRecDepth 100000
namespace Loc
open PySem PySem.Spec PyProof.Rows L2
/-! ### a call of a def that is entered while no repr is under way -/
section
variable {X : Cx} {CX : CXT} {k : Nat} {f : Addr} {fd : FuncData} {ps : List Str} {sp : Sp} {dvs : List V} {ds : List Value} {E : XK} {x : Str} {p pos : Pos} {e : Expr} {es : List Expr} {t : TA}
theorem run_fnG {pins : List (Addr × Obj)} {σ : L2.St} {H : Hp} {s : Shared} {Q : VK} {us : List Value} {vs : List V} (F : FnG X.prog X.w X.K X.mg X.base CX k f fd ps sp) (hg : X.A.guards = some []) (hr : Room k X.A) (hb : Binds X.K fd ps ds) (hd : Vals dvs ds) (hx : Passes CX X E)
    (I : Inv X pins σ H s) (r : Vals vs us) (h : sp (vs ++ dvs) H Q E) : wpAny (model X.prog X.w) X.A (call (.ref f) us) (EP X pins σ Q) X.xe s := by
  have r2 : Vals (vs ++ dvs) (us ++ ds) := r.append hd
  have hl : (us ++ ds).length = ps.length := by rw [← r2.length]; exact F.cnt h
  refine wpAny_call (codeAny_mono (F.go (out := X.stack) (ar := ⟨us, []⟩) hg hr I.env0 (hb s us I.kIn hl) r2 h) fun r s' hq => ?_)
  cases r with
  | error e => exact hx pins σ H s e s' I hq
  | ok fl =>
    cases fl with
    | ret u => exact I.after hq
    | next => exact False.elim hq
    | brk => exact False.elim hq
    | cont => exact False.elim hq
theorem pe_callG (F : FnG X.prog X.w X.K X.mg X.base CX k f fd ps sp) (gg : X.A.guards = some []) (hr : Room k X.A) (hg : Gl X x) (hm : X.mg x = some (.ref f)) (hk : PySem.W.keepIn X.K (.ref f) = true) (hb : Binds X.K fd ps ds) (hd : Vals dvs ds) (hx : Passes CX X E)
    (ha : PA X (e :: es) t) (hdb : (x == ("__debug__" : Str)) = false := by decide) (he : starEach (e :: es) X.env = (false, eval e X.env) :: starEach es X.env := by rfl) (hpl : (backTo pos (starEach es X.env)).any (·.1) = false := by rfl) :
    PE X (.Call (.Name x p) (e :: es) [] pos) (tCall sp dvs E t) := by
  refine ⟨fun pins s σ H Q I h => ?_⟩
  refine wpAny_Call_Name_kw (ld_glob I hg hm ?_ hdb)
  refine PySem.W.callWith_K (h₀ := X.base) I.ok.mod.kin hk (thn (ha.run pos pins s σ H _ I h) fun us s1 ⟨vs, H1, I1, r, q⟩ => ⟨I1.kIn, ?_⟩) he hpl
  exact run_fnG F gg hr hb hd hx I1 r q
end
/-! ### [.. for i, x in enumerate(xs)], xs a list that stays -/
theorem lc_enum {K : PySem.W.Frag} {a : Addr} {xs : List V} {g : TG} {tt : TT} {te : TE} {vs : List Nat} {σ : L2.St} {H1 : Hp} {D : Addr} {Qd : Hp → Prop} (Pv : Nat → Hp → Prop)
    (h0 : Pv 0 (upd H1 D (.lst []))) (hl : ∀ i H, Pv i H → SqL K H a xs)
    (hs : ∀ i x T H, xs[i]? = some x → Pv i H → H T = none → g (.ref T) (wipe σ vs) (upd H T (.tup [.int (i : Nat), x])) fun σ2 H2 => wipe σ2 vs = wipe σ vs ∧ tt σ2 H2 fun k H3 =>
      if k = true then te σ2 H3 fun z H4 => ∃ acc, H4 D = some (.lst acc) ∧ acc.length < sizeLine ∧ Pv (i + 1) (upd H4 D (.lst (acc ++ [z]))) else Pv (i + 1) H3)
    (hd : ∀ i H, Pv i H → xs.length ≤ i → Qd H) :
    ∃ W : Nat → Nat → Hp → Prop, (∃ m, W 0 m (upd H1 D (.lst []))) ∧ ∀ i m H, W i m H →
      ((Ite K a).stop i H ∧ Qd H) ∨ ((Ite K a).go i H ∧ ∃ Nx : Hp → Prop, (∀ H', Nx H' → ∃ m', m' < m ∧ W (i + 1) m' H') ∧ ∀ x H', (Ite K a).yld i H x H' → g x (wipe σ vs) H' fun σ2 H2 => wipe σ2 vs = wipe σ vs ∧ tt σ2 H2 fun k H3 =>
        if k = true then te σ2 H3 fun y H4 => ∃ acc, H4 D = some (.lst acc) ∧ acc.length < sizeLine ∧ Nx (upd H4 D (.lst (acc ++ [y]))) else Nx H3) := by
  refine ⟨fun i m H => m = xs.length - i ∧ Pv i H, ⟨_, rfl, h0⟩, ?_⟩
  rintro i m H ⟨rfl, p⟩
  have k1 := hl i H p
  by_cases c : i < xs.length
  · obtain ⟨x, gx⟩ := get_of c
    refine .inr ⟨⟨xs, x, k1, gx⟩, Pv (i + 1), fun H' p' => ⟨xs.length - (i + 1), by omega, rfl, p'⟩, fun z H' hy => ?_⟩
    obtain ⟨T, x', rfl, hT, rfl, f1⟩ := hy
    have ex : x' = x := Option.some.inj ((f1 _ k1).symm.trans gx)
    subst ex
    exact hs i _ T H gx p hT
  · exact .inl ⟨⟨xs, k1, by omega⟩, hd i H p (by omega)⟩
/-- a pot that stays but for others -/
theorem Pot.same {H H' : Hp} {p : Addr} {c : Nat} (h : Pot H p c) (e : Same H H') : Pot H' p c := let ⟨o, ho, po⟩ := h; ⟨o, e _ _ ho, po⟩
theorem dec_tt {α : Type} [DecidableEq α] (a : α) : decide (a = a) = true := decide_eq_true rfl
/-! ### calls by names alone -/
def kG {α : Type} (us ws : List α) : List α := match us with
  | [] => ws
  | _ => []
section
variable {X : Cx} {CX : CXT} {k : Nat} {f : Addr} {fd : FuncData} {ps ks : List Str} {sp : Sp} {E : XK} {x : Str} {p pos : Pos} {kws : List Keyword} {tk : TA} {g : List Value → List Value → List Value} {gV : List V → List V → List V}
theorem pe_callK0 (F : FnOk X.prog X.w X.K X.mg X.base CX k f fd ps sp) (hr : Room k X.A) (hg : Gl X x) (hm : X.mg x = some (.ref f)) (hk : PySem.W.keepIn X.K (.ref f) = true) (hb : KBinds X.K fd ps ks g gV) (hx : Passes CX X E)
    (hkw : PK X kws tk) (hall : (backToKw pos (keywordEach kws X.env)).all (·.1.isSome) = true := by rfl) (hks : (backToKw pos (keywordEach kws X.env)).filterMap (·.1) = ks := by rfl)
    (hdb : (x == ("__debug__" : Str)) = false := by decide) (hpl : ((backTo pos (starEach [] X.env)).any (·.1) || (backToKw pos (keywordEach kws X.env)).any (·.1.isNone)) = false := by rfl) :
    PE X (.Call (.Name x p) [] kws pos) (tCallK sp gV E tNil tk) := by
  refine ⟨fun pins s σ H Q I h => ?_⟩
  refine wpAny_Call_Name_kw (ld_glob I hg hm ?_ hdb)
  refine PySem.W.callWith_KW0 (h₀ := X.base) I.ok.mod.kin hk hall (thn (hkw.run pos pins s σ H _ I h) fun ws s2 ⟨zs, H2, I2, rz, q2⟩ => ⟨I2.kIn, ?_⟩) hpl
  rw [hks]
  exact run_fnk (us := []) (vs := []) F hr hb hx I2 .nil rz q2
end
theorem fun_kbinds {K : PySem.W.Frag} {x qual : Str} {st : Stmt} {f : Addr} {fd : FuncData} {ps : List Str} (F : Fun K x qual st f fd) (hp : 0 < ps.length)
    (h : ∀ (kV doc pm : Value) (an : Option Addr) (cdv ct : Value) (ws : List Value), ws.length = ps.length → bindArgs (PySem.W.fnOf x qual (defArgs st) (defBody st) (defScope st) .none kV doc pm an cdv ct) ⟨[], ps.zip ws⟩ = pure (ps.zip ws)) : KBinds K fd ps ps kG kG := by
  obtain ⟨oc, od, kV, doc, pm, an, cdv, ct, osl, rfl, lk, hcd⟩ := F.ex
  refine ⟨fun s us ws _ hl => ?_, fun r rz => ?_⟩
  · cases us with
    | nil => exact .of_eq (h kV doc pm an cdv ct ws hl)
    | cons u us =>
      have hl : (0 : Nat) = ps.length := hl
      omega
  · cases r with
    | nil => exact rz
    | cons _ _ => exact .nil
section
variable {K : PySem.W.Frag}
theorem shown_sumL (ns : List Nat) (h : ∀ n ∈ ns, n < 10 ^ 70) : (PyData.shown (.list ((ns.map fun n : Nat => (n : Int)).map PyData.int))).length ≤ 72 * ns.length + 10 := by
  have t := listText_len_le (PyData.shownAll ((ns.map fun n : Nat => (n : Int)).map PyData.int))
  have s := shown_sum ns h
  rw [PyData.shownAll_length, List.length_map, List.length_map] at t
  show (listText _).length ≤ _
  omega
/-- what repr asks of a list of small numbers -/
theorem rep_intsL {H : Hp} {a : Addr} {ns : List Nat} {Q : VK} (hS : SqL K H a (ns.map fun n : Nat => V.int (n : Int))) (h : ∀ n ∈ ns, n < 10 ^ 70) (hl : ns.length ≤ 100000)
    (q : Q (.str (PyData.shown (.list ((ns.map fun n : Nat => (n : Int)).map PyData.int)))) H) : rRep K [.ref a] H Q := by
  have dp := depth_ints (ns.map fun n : Nat => (n : Int))
  have e : (ns.map fun n : Nat => V.int (n : Int)) = (ns.map fun n : Nat => (n : Int)).map V.int := by
    rw [List.map_map]
    rfl
  rw [e] at hS
  refine ⟨a, _, rfl, .lst hS (DpAll.ints _), ?_, ?_, ?_, ?_, q⟩
  · show PyData.showableAll _ = true
    refine PyData.showableAll_ints _ fun n hn => ?_
    obtain ⟨m, hm, rfl⟩ := List.mem_map.mp hn
    exact log_small (h m hm)
  · show PyData.hasDictAll _ = false
    exact noDict_ints _
  · simp only [PyData.depth]
    omega
  · have := shown_sumL ns h
    rw [sizeLine_eq]
    omega
end
theorem rep_getL {α : Type} (l : List α) : ∀ (c i : Nat), i < l.length * c → (List.replicate c l).flatten[i]? = l[i % l.length]?
  | 0, i, h => by omega
  | c + 1, i, h => by
    rw [List.replicate_succ, List.flatten_cons]
    by_cases z : i < l.length
    · rw [List.getElem?_append_left z, Nat.mod_eq_of_lt z]
    · rw [List.getElem?_append_right (by omega), rep_getL l c (i - l.length) (by rw [Nat.mul_succ] at h; omega)]
      rw [Nat.mod_eq_sub_mod (show l.length ≤ i by omega)]
theorem rep_lenL {α : Type} (l : List α) : ∀ c : Nat, (List.replicate c l).flatten.length = l.length * c
  | 0 => rfl
  | c + 1 => by rw [List.replicate_succ, List.flatten_cons, List.length_append, rep_lenL l c, Nat.mul_succ, Nat.add_comm]
/-! ### pairs as data -/
theorem eqv_pairs : ∀ ps : List (Nd × Nat), PyData.eqvAll (ps.map pdat) (ps.map pdat) = true
  | [] => by simp [PyData.eqvAll]
  | p :: r => by
    have e1 : PyData.eqv (pdat p) (pdat p) = true := by
      unfold pdat
      simp [PyData.eqv, PyData.eqvAll, eqv_yes]
    simp only [List.map_cons, PyData.eqvAll, e1, eqv_pairs r, Bool.and_self]
theorem eqv_pairsT (ps : List (Nd × Nat)) : PyData.eqv (.tuple (ps.map pdat)) (.tuple (ps.map pdat)) = true := by
  unfold PyData.eqv
  exact eqv_pairs _
theorem eqv_pairsL (ps : List (Nd × Nat)) : PyData.eqv (.list (ps.map pdat)) (.list (ps.map pdat)) = true := by
  unfold PyData.eqv
  exact eqv_pairs _
theorem shaped_prsTT {l : Nat} {ps : List (Nd × Nat)} (h : ∀ p ∈ ps, Ok p.1 l) (hl : l ≤ 20) : SeqAt.shaped (.tuple (ps.map pdat)) = true := by
  obtain ⟨h1, h2⟩ := canLay_prs l ps h
  unfold SeqAt.shaped
  rw [Bool.and_eq_true]
  exact ⟨by unfold PyData.canLay0; exact h1, decide_eq_true (by unfold PyData.depth; omega)⟩
/-- pairs of elements and small counts -/
def ElPairs (ps : List (Nd × Nat)) : Prop := ∀ p ∈ ps, (∃ k : Nat, p.1 = .el k ∧ k ≤ 10 ^ 9) ∧ p.2 < 10 ^ 70
theorem shown_pdat {p : Nd × Nat} (h : (∃ k : Nat, p.1 = .el k ∧ k ≤ 10 ^ 9) ∧ p.2 < 10 ^ 70) : (PyData.shown (pdat p)).length ≤ 147 ∧ PyData.showable (pdat p) = true ∧ PyData.hasDict (pdat p) = false ∧ PyData.depth (pdat p) ≤ 2 := by
  obtain ⟨n, c⟩ := p
  obtain ⟨⟨k, e, hk⟩, hc⟩ := h
  have e : n = .el k := e
  subst e
  have hk7 : k < 10 ^ 70 := Nat.lt_of_le_of_lt hk (by decide +kernel)
  refine ⟨?_, ?_, ?_, ?_⟩
  · show (tupleText (PyData.shownAll [.int (k : Int), .int (c : Int)])).length ≤ 147
    have t := tupleText_len_le (PyData.shownAll [.int (k : Int), .int (c : Int)])
    have h1 := shown_len hk7
    have h2 := shown_len (n := c) hc
    simp only [PyData.shownAll, List.map_cons, List.map_nil, List.sum_cons, List.sum_nil, List.length_cons, List.length_nil] at t
    simp only [PyData.shownAll]
    omega
  · show PyData.showableAll (([k, c].map fun n : Nat => (n : Int)).map PyData.int) = true
    refine PyData.showableAll_ints _ fun n hn => ?_
    obtain ⟨m, hm, rfl⟩ := List.mem_map.mp hn
    simp only [List.mem_cons, List.not_mem_nil, or_false] at hm
    rcases hm with rfl | rfl
    · exact log_small hk7
    · exact log_small hc
  · show PyData.hasDictAll (([k, c].map fun n : Nat => (n : Int)).map PyData.int) = false
    exact noDict_ints _
  · have := depth_ints ([k, c].map fun n : Nat => (n : Int))
    show PyData.depth (.tuple (([k, c].map fun n : Nat => (n : Int)).map PyData.int)) ≤ 2
    simp only [PyData.depth]
    omega
theorem shown_pdats : ∀ ps : List (Nd × Nat), ElPairs ps → ((PyData.shownAll (ps.map pdat)).map (·.length)).sum ≤ 147 * ps.length ∧ PyData.showableAll (ps.map pdat) = true ∧ PyData.hasDictAll (ps.map pdat) = false ∧ PyData.depthAll (ps.map pdat) ≤ 2
  | [], _ => by simp [PyData.shownAll, PyData.showableAll, PyData.hasDictAll, PyData.depthAll]
  | p :: r, h => by
    obtain ⟨a1, a2, a3, a4⟩ := shown_pdat (h p List.mem_cons_self)
    obtain ⟨b1, b2, b3, b4⟩ := shown_pdats r fun q hq => h q (List.mem_cons_of_mem _ hq)
    simp only [List.map_cons, PyData.shownAll, PyData.showableAll, PyData.hasDictAll, PyData.depthAll, List.sum_cons, List.length_cons, a2, b2, a3, b3, Bool.and_self, Bool.or_self]
    refine ⟨by omega, trivial, trivial, by omega⟩
theorem shown_prsT {ps : List (Nd × Nat)} (h : ElPairs ps) : (PyData.shown (.tuple (ps.map pdat))).length ≤ 149 * ps.length + 3 ∧ PyData.showable (.tuple (ps.map pdat)) = true ∧ PyData.hasDict (.tuple (ps.map pdat)) = false ∧ PyData.depth (.tuple (ps.map pdat)) ≤ 3 := by
  obtain ⟨b1, b2, b3, b4⟩ := shown_pdats ps h
  refine ⟨?_, b2, b3, ?_⟩
  · show (tupleText _).length ≤ _
    have t := tupleText_len_le (PyData.shownAll (ps.map pdat))
    rw [PyData.shownAll_length, List.length_map] at t
    omega
  · simp only [PyData.depth]
    omega
section
variable {K : PySem.W.Frag}
/-- repr of pairs -/
theorem rep_prsT {H : Hp} {a : Addr} {us : List V} {ps : List (Nd × Nat)} {Q : VK} (hS : SqT K H a us) (hn : PrsV K H us ps) (h : ElPairs ps) (hl : ps.length ≤ 1000) (q : Q (.str (PyData.shown (.tuple (ps.map pdat)))) H) : rRep K [.ref a] H Q := by
  obtain ⟨b1, b2, b3, b4⟩ := shown_prsT h
  refine ⟨a, _, rfl, .tup hS hn, b2, b3, by omega, ?_, q⟩
  rw [sizeLine_eq]
  omega
/-- repr of a list of two tuples of pairs -/
theorem rep_two {H : Hp} {a b c : Addr} {us ws : List V} {ps : List (Nd × Nat)} {Q : VK} (hL : SqL K H a [.ref b, .ref c]) (hb : SqT K H b us) (hc : SqT K H c ws) (hn : PrsV K H us ps) (hm : PrsV K H ws ps) (h : ElPairs ps) (hl : ps.length ≤ 1000)
    (q : Q (.str (PyData.shown (.list [.tuple (ps.map pdat), .tuple (ps.map pdat)]))) H) : rRep K [.ref a] H Q := by
  obtain ⟨b1, b2, b3, b4⟩ := shown_prsT h
  refine ⟨a, _, rfl, .lst hL (.cons (.tup hb hn) (.cons (.tup hc hm) .nil)), ?_, ?_, ?_, ?_, q⟩
  · simp only [PyData.showable, PyData.showableAll]
    simp only [PyData.showable] at b2
    rw [b2]
    rfl
  · simp only [PyData.hasDict, PyData.hasDictAll]
    simp only [PyData.hasDict] at b3
    rw [b3]
    rfl
  · simp only [PyData.depth, PyData.depthAll]
    simp only [PyData.depth] at b4
    omega
  · show (listText (PyData.shownAll [.tuple (ps.map pdat), .tuple (ps.map pdat)])).length ≤ sizeLine
    have t := listText_len_le (PyData.shownAll [.tuple (ps.map pdat), .tuple (ps.map pdat)])
    simp only [PyData.shownAll, List.map_cons, List.map_nil, List.sum_cons, List.sum_nil, List.length_cons, List.length_nil] at t
    simp only [PyData.shownAll]
    rw [sizeLine_eq]
    omega
end
/-! ### repr of a tuple, an int, None -/
def rRepV (K : PySem.W.Frag) : List V → Hp → VK → Prop := fun xs H Q => rRepA K xs H Q ∨ (xs = [.non] ∧ Q (.str "None") H)
theorem call_repV {X : Cx} {k : Nat} (hr : Room k X.A) (hg : X.A.guards = some []) : CallR X (.builtin "repr") (rRepV X.K) := by
  intro pins s σ H xs us Q I r h
  rcases h with h | ⟨rfl, q⟩
  · exact call_repA hr hg pins s σ H xs us Q I r h
  · obtain ⟨u, rfl, ru⟩ := vals1 r
    cases ru
    exact PySem.P.repr_of_none ⟨.str _, H, I.tok _, ⟨_, rfl⟩, q⟩
theorem sum_ints (l : List Nat) : (l.map fun n : Nat => (n : Int)).sum = ((l.sum : Nat) : Int) := by
  induction l with
  | nil => rfl
  | cons a r ih => rw [List.map_cons, List.sum_cons, List.sum_cons, ih, Int.natCast_add]
open RZ
/-! ### for x, y in zip(t, u), t and u tuples of any lengths -/
theorem for_zipU {K : PySem.W.Frag} {a b : Addr} {xs ys : List V} {g : TG} {tb : TS} {D : Ends} {σ : L2.St} {H : Hp} (Pv : Nat → L2.St → Hp → Prop) (h0 : Pv 0 σ H) (hq : ∀ i σ H, Pv i σ H → SqT K H a xs ∧ SqT K H b ys)
    (hs : ∀ (i : Nat) (x y : V) (T : Addr) (σ : L2.St) (H : Hp), xs[i]? = some x → ys[i]? = some y → Pv i σ H → H T = none → g (.ref T) σ (upd H T (.tup [x, y])) fun σ2 H2 => tb { D with nx := Pv (i + 1), ct := Pv (i + 1), bk := D.nx } σ2 H2)
    (hd : ∀ i σ H, Pv i σ H → (xs.length ≤ i ∨ ys.length ≤ i) → D.nx σ H) :
    ∃ W : Nat → Nat → L2.St → Hp → Prop, (∃ m, W 0 m σ H) ∧ ∀ i m σ H, W i m σ H →
      ((ItzT K a b).stop i H ∧ D.nx σ H) ∨ ((ItzT K a b).go i H ∧ ∃ N : L2.St → Hp → Prop, (∀ σ' H', N σ' H' → ∃ m', m' < m ∧ W (i + 1) m' σ' H') ∧ ∀ v H', (ItzT K a b).yld i H v H' → g v σ H' fun σ2 H2 => tb { D with nx := N, ct := N, bk := D.nx } σ2 H2) := by
  refine ⟨fun i m σ H => m = xs.length - i ∧ Pv i σ H, ⟨_, rfl, h0⟩, ?_⟩
  rintro i m σ H ⟨rfl, p⟩
  obtain ⟨k1, k2⟩ := hq i σ H p
  by_cases c : i < xs.length ∧ i < ys.length
  · obtain ⟨x, gx⟩ := get_of c.1
    obtain ⟨y, gy⟩ := get_of c.2
    refine .inr ⟨⟨xs, ys, x, y, k1, k2, gx, gy⟩, Pv (i + 1), fun σ' H' p' => ⟨xs.length - (i + 1), by omega, rfl, p'⟩, fun v H' hy => ?_⟩
    obtain ⟨T, x', y', rfl, hT, rfl, f1, f2⟩ := hy
    have ex : x' = x := Option.some.inj ((f1 _ k1).symm.trans gx)
    have ey : y' = y := Option.some.inj ((f2 _ k2).symm.trans gy)
    subst ex
    subst ey
    exact hs i _ _ T σ H gx gy p hT
  · have c' : xs.length ≤ i ∨ ys.length ≤ i := by omega
    exact .inl ⟨⟨xs, ys, k1, k2, c'⟩, hd i σ H p c'⟩
/-- t[1:] -/
theorem slice_one {K : PySem.W.Frag} {H : Hp} {a : Addr} {xs : List V} {Q : VK} (h : SqT K H a xs) (q : ∀ H' t, Same H H' → SqT K H' t (xs.drop 1) → Q (.ref t) H') : rSlA K (.ref a) (some 1) none H Q := by
  refine ⟨a, xs, rfl, h, fun hw => q H a (Same.refl H) ?_, fun hw u nu => q _ u (sameN nu) (.inl (.inl ?_))⟩
  · have h1 : HT.sIx xs.length 0 (some ((1 : Nat) : Int)) = 0 := hw.1
    rw [HT.sIx_nat] at h1
    have : xs.length = 0 := by omega
    rw [List.eq_nil_of_length_eq_zero this] at h ⊢
    exact h
  · rw [upd_same]
    refine congrArg (fun z => some (HO.tup z)) ?_
    show cutV xs (some ((1 : Nat) : Int)) none = _
    unfold cutV
    rw [HT.sIx_nat, HT.sIx_none]
    by_cases z : xs.length = 0
    · rw [List.eq_nil_of_length_eq_zero z]
      rfl
    · rw [show min 1 xs.length = 1 by omega]
      exact List.take_of_length_le (by rw [List.length_drop]; exact Nat.le_refl _)
/-- a pair as data -/
theorem shaped_pdat {p : Nd × Nat} {l : Nat} (h : Ok p.1 l) (hl : l ≤ 20) : SeqAt.shaped (pdat p) = true := by
  obtain ⟨h1, h2⟩ := canLay_prs l [p] fun q hq => by rw [List.mem_singleton.mp hq]; exact h
  unfold SeqAt.shaped
  rw [Bool.and_eq_true]
  simp only [List.map_cons, List.map_nil, PyData.canLayAll0, PyData.depthAll, Bool.and_true] at h1 h2
  exact ⟨h1, decide_eq_true (by omega)⟩
theorem eqv_pdat (p : Nd × Nat) : PyData.eqv (pdat p) (pdat p) = true := by
  unfold pdat
  simp [PyData.eqv, PyData.eqvAll, eqv_yes]
end Loc

set_option Elab.async false
set_option linter.all false
set_option maxRecDepth 100000
namespace C64
open PySem PySem.Spec PyProof.Rows L2 Loc RZ
section
variable {P : Program} {w : World} {K : PySem.W.Frag} {mg : Str → Option Value} {base : Heap}
def spLText (K : PySem.W.Frag) (m : Nat) : Sp := fun vs H Q _ => ∃ v n l, vs = [v] ∧ NdV K H v n ∧ Ok n l ∧ wide l ≤ 1000000 ∧ ht n < m ∧ ∀ H', Same H H' → Q (.str (txt n)) H'
theorem scLText : FnScope ["node", "one"] ["node"] (defScope sLText) := ⟨rfl, rfl, rfl, by decide +kernel, rfl, by decide +kernel, by decide +kernel⟩
theorem ok_ltext {f : Addr} {fd : FuncData} (F : Fun K "_law_text" "_law_text" sLText f fd) (gF : mg "_law_text" = some (.ref f)) (bF : Binds K fd ["node"] []) (mi : mg "isinstance" = none) (mn : mg "int" = none) (ms : mg "str" = none) : ∀ m : Nat, FnOk P w K mg base CX0 (m + 1) f fd ["node"] (spLText K m)
  | 0 => ⟨fun vs H Q E h => by obtain ⟨v, n, l, _, _, _, _, h, _⟩ := h; exact absurd h (Nat.not_lt_zero _), fun A outer s H args us vs Q E _ _ _ _ h => by obtain ⟨v, n, l, _, _, _, _, h, _⟩ := h; exact absurd h (Nat.not_lt_zero _)⟩
  | m + 1 => by
    have IH : FnOk P w K mg base CX0 (m + 1) f fd ["node"] (spLText K m) := ok_ltext F gF bF mi mn ms m
    refine F.ok scLText (fun vs H Q E h => ?_) (fun cdv A outer s H vs Q E hr h => ?_)
    · obtain ⟨v, n, l, rfl, _⟩ := h
      rfl
    · obtain ⟨v, n, l, rfl, hn, ok, hw, hh, q⟩ := h
      refine ⟨_, pss_cons (ps_if (pt_val (pe_callB call_isi (by rfl) mi PyProof.Rows.boot_isinstance (pa_cons (pv 0) (pa_cons (pe_bltn (v := .ty "int") (by rfl) mn (by decide +kernel) rfl) pa_nil))))
            (pss_one (ps_ret (pe_callTy call_str_int (by rfl) ms PyProof.Rows.boot_str (pa_cons (pv 0) pa_nil)))) pss_nil)
        (pss_cons (ps_if (pt_cmpR op_eq (pe_ix ix_tup (pv 0) pe_int (fun _ _ => rfl)) pe_str (nomark _))
            (pss_one (ps_ret (pe_op op_add_str (pe_op op_add_str (pe_call IH hr (by rfl) gF F.kp bF .nil pass0 (pa_cons (pe_ix ix_tup (pv 0) pe_int (fun _ _ => rfl)) pa_nil)) pe_str) (pe_callTy call_str_int (by rfl) ms PyProof.Rows.boot_str (pa_cons (pe_ix ix_tup (pv 0) pe_int (fun _ _ => rfl)) pa_nil))))) pss_nil)
        (pss_one (ps_ret (pe_op op_add_str (pe_op op_add_str pe_str (pe_join pe_str (pe_lc (own := [("one", 1)]) (g := gName 1) (tt := tYes) rfl scLText.nd (pi_tup (pe_ix ix_tup (pv 0) pe_int (fun _ _ => rfl)))
              (blkOk_by (N := ["node", "one"]) (sc := defScope sLText) (by decide +kernel)) (fun _ _ _ _ _ => pg_name (i := 1) scLText.nd rfl (Or.inl rfl)) (fun _ _ _ _ _ => pts_nil)
              (fun _ _ _ _ _ => pe_call IH hr (by rfl) gF F.kp bF .nil pass0 (pa_cons (pv 1) pa_nil))))) pe_str)))), ?_⟩
      have tl := txt_len n l ok
      cases n with
      | run b c =>
        obtain ⟨a, v2, rfl, h1, h2⟩ := hn.run
        refine ⟨_, rfl, _, _, _, _, false, rfl, .ty "int", Loc.SqT.ty h1, kit_ty (by decide +kernel), _, rfl, iteF ?_⟩
        refine ⟨.ref a, rfl, a, _, 0, .str "run", rfl, rfl, h1, rfl, rfl, _, rfl, ?_⟩
        rw [decide_eq_true rfl]
        unfold Ok at ok
        have tb := txt_len b l ok.2.2.2
        rw [ok.2.2.1] at tb
        simp only [Bool.false_eq_true, if_false] at tb
        have nl := numT_len (n := c) (k := 61) (by decide) (Nat.lt_of_le_of_lt ok.2.1 (by decide +kernel))
        have e1 : (Str.ofString "^").length = 1 := by decide +kernel
        refine ⟨.ref a, rfl, a, _, 1, v2, rfl, rfl, h1, rfl, v2, b, l, rfl, h2, ok.2.2.2, hw, ?_, fun H2 s2 => ?_⟩
        · unfold ht at hh
          omega
        refine ⟨_, _, rfl, rfl, ?_, .ref a, rfl, a, _, 2, .int c, rfl, rfl, sameT s2 h1, rfl, c, rfl, log60 ok.2.1, _, _, rfl, rfl, ?_, ?_⟩
        · rw [e1]
          exact Nat.le_trans (show (txt b).length + 1 ≤ 1000001 by omega) (by decide)
        · rw [strLen_append, e1]
          have : (numT c).length ≤ 61 := nl
          exact Nat.le_trans (show (txt b).length + 1 + (numT c).length ≤ 1000100 by omega) (by decide)
        · have := q H2 s2
          unfold txt at this
          exact this
      | el n =>
        have ev := hn.el
        subst ev
        refine ⟨_, rfl, _, _, _, _, true, rfl, .ty "int", .base (.int _), kit_ty (by decide +kernel), _, rfl, iteT ?_⟩
        unfold Ok at ok
        refine ⟨_, rfl, n, rfl, log60 (Nat.le_trans ok.2 (by decide +kernel)), ?_⟩
        have := q H (Same.refl H)
        unfold txt at this
        exact this
      | blk ps =>
        obtain ⟨a, bb, vs, rfl, h1, h2, h3⟩ := hn.blk
        refine ⟨_, rfl, _, _, _, _, false, rfl, .ty "int", Loc.SqT.ty h1, kit_ty (by decide +kernel), _, rfl, iteF ?_⟩
        refine ⟨.ref a, rfl, a, _, 0, .str "block", rfl, rfl, h1, rfl, rfl, _, rfl, ?_⟩
        rw [decide_eq_false (show ¬ (V.str "block" = V.str "run") by decide +kernel)]
        have okc := ok
        unfold Ok at ok
        obtain ⟨l1, l2, l3, okp, _⟩ := ok
        have lv := h3.len
        have sm := txts_len ps (l - 1) okp
        obtain ⟨j, rfl⟩ : ∃ j, l = j + 1 := ⟨l - 1, by omega⟩
        simp only [Nat.add_sub_cancel] at sm okp
        have wj : wide (j + 1) = 3 * wide j + 110 := rfl
        have mm : ps.length * wide j ≤ 3 * wide j := Nat.mul_le_mul_right _ l3
        refine ⟨⟨_, rfl⟩, .ref a, rfl, a, _, 1, .ref bb, rfl, rfl, h1, rfl, bb, rfl, ⟨vs, h2⟩, fun D nD => ?_⟩
        refine lc_tup (xs := vs) (fun i H' => H' D = some (.lst (((txts ps).take i).map V.str)) ∧ Same H H') ⟨by rw [List.take_zero]; exact upd_same, sameN nD⟩ (fun i H' _ hp => sameT hp.2 h2) (fun i u H' hu hp => ?_) (fun H' hp => ?_)
        · obtain ⟨g1, s3⟩ := hp
          obtain ⟨x, hx, kx⟩ := (h3.up (.of s3)).get hu
          have hmem := List.mem_of_getElem? hx
          have ht2 : ht x < m := by
            have := hts_mem hmem
            unfold ht at hh
            omega
          have htx : (txts ps)[i]? = some (txt x) := by rw [txts_map, List.getElem?_map, hx]; rfl
          refine ⟨rfl, u, rfl, u, x, j, rfl, kx, okp.mem x hmem, by omega, ht2, fun H3 s4 => ⟨_, s4 _ _ g1, ?_, ?_, sameW (s3.trans s4) nD⟩⟩
          · rw [List.length_map]
            refine line5 (small_take ?_)
            rw [txts_map, List.length_map]
            omega
          · rw [upd_same, take_more htx, List.map_append]
            rfl
        · obtain ⟨g1, s3⟩ := hp
          have full : (txts ps).take vs.length = txts ps := List.take_of_length_le (by rw [txts_map, List.length_map, lv]; exact Nat.le_refl _)
          rw [full] at g1
          have e1 : (Str.ofString "(").length = 1 := by decide +kernel
          have e2 : (Str.ofString ")").length = 1 := by decide +kernel
          have e3 : (Str.ofString " ").length = 1 := by decide +kernel
          have e4 : (txts ps).length = ps.length := by rw [txts_map, List.length_map]
          have g := size_glued " " (txts ps)
          rw [e3, e4] at g
          have g' : (Txt.join " " (txts ps)).length = ((txts ps).map (·.length)).sum + (ps.length - 1) * 1 := g
          refine ⟨_, D, txts ps, rfl, rfl, .inl (.inl (.inl g1)), ?_, _, _, rfl, rfl, ?_, _, _, rfl, rfl, ?_, ?_⟩
          · rw [e3, e4]
            omega
          · rw [e1]
            refine Nat.le_trans (show 1 + (Txt.join " " (txts ps)).length ≤ 1000100 by omega) (by decide)
          · rw [strLen_append, e1, e2]
            refine Nat.le_trans (show 1 + (Txt.join " " (txts ps)).length + 1 ≤ 1000100 by omega) (by decide)
          · have := q H' s3
            unfold txt at this
            exact this
end
/-! ### the law's own first marks -/
theorem cpD : ∀ {a b : List Nat}, (∀ x ∈ a, Sg x) → (∀ x ∈ b, Sg x) → a ≠ b → cp (a ++ [36]) (b ++ [36]) = cp a b
  | [], [], _, _, h => absurd rfl h
  | [], y :: q, _, hb, _ => by
    have : (36 : Nat) ≠ y := fun z => by
      have := hb y List.mem_cons_self
      rw [← z] at this
      unfold Sg at this
      omega
    show cp (36 :: []) (y :: (q ++ [36])) = cp [] (y :: q)
    simp [cp, this]
  | x :: r, [], ha, _, _ => by
    have : x ≠ 36 := fun z => by
      have := ha x List.mem_cons_self
      rw [z] at this
      unfold Sg at this
      omega
    show cp (x :: (r ++ [36])) (36 :: []) = cp (x :: r) []
    simp [cp, this]
  | x :: r, y :: q, ha, hb, h => by
    show cp (x :: (r ++ [36])) (y :: (q ++ [36])) = cp (x :: r) (y :: q)
    by_cases e : x = y
    · have := cpD (a := r) (b := q) (fun z hz => ha z (List.mem_cons_of_mem _ hz)) (fun z hz => hb z (List.mem_cons_of_mem _ hz)) (fun z => h (by rw [e, z]))
      simp only [cp, e, if_true]
      rw [this]
    · simp [cp, e]
theorem getD36 {b : List Nat} (hb : ∀ x ∈ b, Sg x) {i : Nat} (h : i ≤ b.length) : ∃ c, (b ++ [36])[i]? = some c ∧ (Sg c ∨ c = 36) ∧ code c = codeAt b i := by
  rcases Nat.lt_or_ge i b.length with z | z
  · obtain ⟨c, hc⟩ := get_of z
    exact ⟨c, by rw [List.getElem?_append_left z]; exact hc, .inl (hb c (List.mem_of_getElem? hc)), (codeAt_some hc).symm⟩
  · have e : i = b.length := by omega
    subst e
    refine ⟨36, ?_, .inr rfl, (codeAt_none (List.getElem?_eq_none_iff.mpr (Nat.le_refl _))).symm⟩
    rw [List.getElem?_append_right (Nat.le_refl _), Nat.sub_self]
    rfl
theorem tl_dollar (n : Nd) : TL.tl (txt n ++ Str.ofString "$") = cd n ++ [36] := by
  rw [TL.tl_append, tl_txt]
  exact congrArg (cd n ++ ·) (by decide +kernel)
section
variable {P : Program} {w : World} {K : PySem.W.Frag} {mg : Str → Option Value} {base : Heap}
abbrev nmLF : List Str := ["row", "found", "ahead", "node", "text", "spot"]
theorem scLFirst : FnScope nmLF ["row"] (defScope sLFirst) := ⟨rfl, rfl, rfl, by decide +kernel, rfl, by decide +kernel, by decide +kernel⟩
def spLFirst (K : PySem.W.Frag) (m : Nat) : Sp := fun vs H Q _ => ∃ (a : Addr) (us : List V) (ns : List Nd) (l : Nat), vs = [.ref a] ∧ SqL K H a us ∧ NdsV K H us ns ∧ OkAll ns l ∧ Unb ns ∧ wide l ≤ 1000000 ∧ (∀ n ∈ ns, ht n < m) ∧ ns.length ≤ 100000 ∧
  ∀ H' p, Same H H' → H' p = some (.lst ((fms (ns.map cd)).map fun n : Nat => V.int (n : Int))) → Q (.ref p) H'
def aheadV (ns : List Nd) : Nat → V
  | 0 => .non
  | i + 1 => match ns[i]? with
    | some n => .str (txt n ++ Str.ofString "$")
    | none => .non
theorem aheadV_succ {ns : List Nd} {k : Nat} {y : Nd} (h : ns[k]? = some y) : aheadV ns (k + 1) = .str (txt y ++ Str.ofString "$") := by
  show (match ns[k]? with
    | some n => V.str (txt n ++ Str.ofString "$")
    | none => V.non) = _
  rw [h]
theorem dollar_at {n : Nd} {j c : Nat} (h : (cd n ++ [36])[j]? = some c) : (txt n ++ Str.ofString "$").cps.toList[j]? = some c :=
  (congrArg (fun z : List Nat => z[j]?) (tl_dollar n)).trans h
theorem ok_lfirst {f g : Addr} {fd gd : FuncData} (F : Fun K "_law_first" "_law_first" sLFirst f fd) (G : Fun K "_law_text" "_law_text" sLText g gd) (gG : mg "_law_text" = some (.ref g)) (bG : Binds K gd ["node"] [])
    (mi : mg "isinstance" = none) (mn : mg "int" = none) (ms : mg "str" = none) (m : Nat) : FnOk P w K mg base CX0 (m + 2) f fd ["row"] (spLFirst K m) := by
  have GX : FnOk P w K mg base CX0 (m + 1) g gd ["node"] (spLText K m) := ok_ltext G gG bG mi mn ms m
  refine F.ok scLFirst (fun vs H Q E h => ?_) (fun cdv A outer s H vs Q E hr h => ?_)
  · obtain ⟨a, us, ns, l, rfl, _⟩ := h
    rfl
  · obtain ⟨a, us, ns, l, rfl, hS, hn, ok, un, hw, hh, hl, q⟩ := h
    refine ⟨_, pss_cons (ps_par (i := 1) (j := 2) (by rfl) scLFirst.nd rfl rfl (by decide) rfl rfl (pa_cons (pe_lst pa_nil) (pa_cons pe_non pa_nil)) (by rfl))
      (pss_cons (ps_for PassesOwn.never rfl (pi_list (pv 0)) (pg_name (i := 3) scLFirst.nd rfl (.inl rfl))
        (pss_cons (ps_set (i := 4) scLFirst.nd rfl (.inl rfl) (pe_op op_add_str (pe_call GX hr (by rfl) gG G.kp bG .nil pass0 (pa_cons (pv 3) pa_nil)) pe_str))
        (pss_cons (ps_set (i := 5) scLFirst.nd rfl (.inl rfl) pe_int)
        (pss_cons (ps_while PassesOwn.never (PW.pt (pw_and (pt_cmpR op_notN (pv 2) pe_non (nomark _)) (pw_and1 (pt_cmpR op_eq (pe_ix ix_str (pv 2) (pv 5) (fun _ _ => rfl)) (pe_ix ix_str (pv 4) (pv 5) (fun _ _ => rfl)) (nomark _)))))
          (pss_one (ps_set (i := 5) scLFirst.nd rfl (.inl rfl) (pe_op op_add (pv 5) pe_int))))
        (pss_cons (ps_expr (pe_bm PySem.F.plainAttrs_list PySem.F.slot_list_append PySem.F.type_list_append mt_append (pv 1)
            (pa_cons (pe_op op_add (pe_op op_mul pe_int (pv 5)) (pe_m1 PySem.F.slot_str_index PySem.F.type_str_index mt_sindex pe_str (pe_ix ix_str (pv 4) (pv 5) (fun _ _ => rfl)) (by rfl) (by rfl) (by rfl))) pa_nil)))
        (pss_one (ps_set (i := 2) scLFirst.nd rfl (.inl rfl) (pv 4))))))))
      (pss_one (ps_ret (pv 1)))), ?_⟩
    have hlu := hn.len
    have lf : (fms (ns.map cd)).length = ns.length := by rw [fms_length, List.length_map]
    refine ⟨(show 0 ≤ sizeLine from by decide), fun D nD => ⟨_, _, rfl, ?_⟩⟩
    refine ⟨.ref a, rfl, a, rfl, ⟨us, (sameN nD).seq hS⟩, ?_⟩
    refine for_list (xs := us) (fun i σ H' => ∃ y3 y4 y5, σ = [some (.ref a), some (.ref D), some (aheadV ns i), y3, y4, y5] ∧ H' D = some (.lst (((fms (ns.map cd)).take i).map fun n : Nat => V.int (n : Int))) ∧ Same H H')
      ⟨none, none, none, rfl, by rw [List.take_zero]; exact upd_same, sameN nD⟩ (fun i σ H' _ hp => ?_) (fun i u σ H1 hu hp => ?_) (fun σ H' hp => ?_)
    · obtain ⟨_, _, _, _, _, s1⟩ := hp
      exact s1.seq hS
    · obtain ⟨y3, y4, y5, rfl, g1, s1⟩ := hp
      obtain ⟨x, hx, kx⟩ := (hn.up (.of s1)).get hu
      have hmem := List.mem_of_getElem? hx
      have okx := ok.mem x hmem
      have lx := len_cd okx hw
      have hil : i < ns.length := (List.getElem?_eq_some_iff.mp hx).1
      obtain ⟨mk, hmk⟩ := get_of (l := fms (ns.map cd)) (i := i) (by omega)
      have e1 : (Str.ofString "$").length = 1 := by decide +kernel
      have ld : (txt x ++ Str.ofString "$").length ≤ 1000001 := by rw [strLen_append, e1]; omega
      have ld' : (txt x ++ Str.ofString "$").length ≤ sizeLine := Nat.le_trans ld (by decide)
      have ldS : (txt x).length + (Str.ofString "$").length ≤ sizeLine := by rw [← strLen_append]; exact ld'
      refine ⟨u, rfl, u, x, l, rfl, kx, okx, hw, hh x hmem, fun H2 s2 => ⟨_, _, rfl, rfl, ldS, ?_⟩⟩
      have g2 := s2 _ _ g1
      have s12 := s1.trans s2
      refine ⟨fun m' σ' H' => ∃ j : Nat, σ' = [some (.ref a), some (.ref D), some (aheadV ns i), some u, some (.str (txt x ++ Str.ofString "$")), some (.int j)] ∧ H' = H2 ∧
          ((i = 0 ∧ m' = 0 ∧ j = 0) ∨ ∃ k y, i = k + 1 ∧ ns[k]? = some y ∧ j + m' = cp (cd y) (cd x)), ?_, ?_⟩
      · rcases Nat.eq_zero_or_pos i with z | z
        · exact ⟨0, 0, rfl, rfl, .inl ⟨z, rfl, rfl⟩⟩
        · obtain ⟨y, hy⟩ := get_of (l := ns) (i := i - 1) (by omega)
          exact ⟨cp (cd y) (cd x), 0, rfl, rfl, .inr ⟨i - 1, y, by omega, hy, Nat.zero_add _⟩⟩
      rintro m' σ' H' ⟨j, rfl, rfl, hj⟩
      rcases hj with ⟨rfl, rfl, rfl⟩ | ⟨k, y, rfl, hy, hj⟩
      · refine ⟨_, rfl, rfl, _, rfl, ?_⟩
        rw [show (!decide (aheadV ns 0 = V.non)) = false from rfl]
        have e0 : mk = codeAt (cd x) 0 := by
          have : (fms (ns.map cd))[0]? = some (codeAt (cd x) 0) := by
            match ns, hx with
            | z :: r, hx =>
              have : z = x := by simpa using hx
              rw [this]
              rfl
          rw [hmk] at this
          exact Option.some.inj this
        obtain ⟨c, hc, sc, ec⟩ := getD36 (cd_sg x) (Nat.zero_le _)
        obtain ⟨rest, eo⟩ := sign_atL sc
        refine ⟨.ref D, rfl, .inl ⟨rfl, _, .inl (.inl g2)⟩, _, rfl, 16, _, rfl, rfl, .inl ⟨by decide, by decide⟩, ?_⟩
        refine ⟨⟨_, rfl⟩, _, rfl, _, rfl, txt x ++ Str.ofString "$", 0, c, rfl, rfl, ld', atI_nat (dollar_at hc), _, _, _, rest, rfl, rfl, eo, _, _, rfl, rfl, D, _, _, rfl, rfl, g2, ?_, ?_⟩
        · rw [List.length_map]
          exact line5 (small_take (by omega))
        · refine ⟨_, rfl, some u, some (.str (txt x ++ Str.ofString "$")), some (.int ((0 : Nat) : Int)), by rw [aheadV_succ hx]; rfl, ?_, sameW s12 nD⟩
          · rw [upd_same, take_more hmk, List.map_append, e0, ← ec]
            exact congrArg (fun z => some (HO.lst (_ ++ [z]))) (int_congr (by omega))
      · have okp := ok.mem y (List.mem_of_getElem? hy)
        have ly := len_cd okp hw
        have ldy : (txt y ++ Str.ofString "$").length ≤ sizeLine := by rw [strLen_append, e1]; exact Nat.le_trans (show (txt y).length + 1 ≤ 1000001 by omega) (by decide)
        have ne : cd y ≠ cd x := (unlT_of ok un).get (by rw [List.getElem?_map, hy]; rfl) (by rw [List.getElem?_map, hx]; rfl)
        have em := fms_get (ns.map cd) k (cd y) (cd x) (by rw [List.getElem?_map, hy]; rfl) (by rw [List.getElem?_map, hx]; rfl)
        rw [hmk] at em
        have em := Option.some.inj em
        have cl := cp_le (cd y) (cd x)
        obtain ⟨c, hc, sc, ec⟩ := getD36 (cd_sg x) (i := j) (by omega)
        obtain ⟨d, hd, sd, ed⟩ := getD36 (cd_sg y) (i := j) (by omega)
        have ea : aheadV ns (k + 1) = .str (txt y ++ Str.ofString "$") := aheadV_succ hy
        have ce := cpD (cd_sg y) (cd_sg x) ne
        rw [ea]
        refine ⟨_, rfl, rfl, _, rfl, ?_⟩
        rw [show (!decide (V.str (txt y ++ Str.ofString "$") = V.non)) = true from by rw [decide_eq_false (fun z => nomatch z)]; rfl]
        refine ⟨_, rfl, _, rfl, txt y ++ Str.ofString "$", j, d, rfl, rfl, ldy, atI_nat (dollar_at hd), _, rfl, _, rfl, txt x ++ Str.ofString "$", j, c, rfl, rfl, ld', atI_nat (dollar_at hc), rfl, _, rfl, ?_⟩
        rw [Loc.one_sign]
        by_cases e : d = c
        · rw [decide_eq_true e]
          have hlt : j < cp (cd y) (cd x) := by
            rcases Nat.lt_or_ge j (cp (cd y) (cd x)) with z | z
            · exact z
            · have : j = cp (cd y ++ [36]) (cd x ++ [36]) := by rw [ce]; omega
              rw [this] at hc hd
              exact absurd e (cp_stop _ _ d c hd hc)
          refine ⟨fun σ' H'' => σ' = [some (.ref a), some (.ref D), some (.str (txt y ++ Str.ofString "$")), some u, some (.str (txt x ++ Str.ofString "$")), some (.int ((j + 1 : Nat) : Int))] ∧ H'' = H', fun σ' H'' hN => ⟨m' - 1, by omega, j + 1, hN.1, hN.2, .inr ⟨k, y, rfl, hy, by omega⟩⟩, ?_⟩
          refine ⟨_, rfl, j, 1, rfl, rfl, ?_, rfl⟩
          rw [Int.natCast_add]
          rfl
        · rw [decide_eq_false e]
          have hj' : j = cp (cd y) (cd x) := by
            rcases Nat.lt_or_ge j (cp (cd y) (cd x)) with z | z
            · rw [← ce] at z
              obtain ⟨u', h1, h2⟩ := cp_same _ _ j z
              rw [hd] at h1
              rw [hc] at h2
              exact absurd ((Option.some.inj h1).trans (Option.some.inj h2).symm) e
            · omega
          obtain ⟨rest, eo⟩ := sign_atL sc
          refine ⟨.ref D, rfl, .inl ⟨rfl, _, .inl (.inl g2)⟩, _, rfl, 16, _, rfl, rfl, .inl ⟨by decide, by decide⟩, ⟨_, rfl⟩, _, rfl, _, rfl, txt x ++ Str.ofString "$", j, c, rfl, rfl, ld', atI_nat (dollar_at hc), _, _, _, rest, rfl, rfl, eo, _, _, rfl, rfl, D, _, _, rfl, rfl, g2, ?_, ?_⟩
          · rw [List.length_map]
            exact line5 (small_take (by omega))
          · refine ⟨_, rfl, some u, some (.str (txt x ++ Str.ofString "$")), some (.int (j : Int)), by rw [aheadV_succ hx]; rfl, ?_, sameW s12 nD⟩
            · rw [upd_same, take_more hmk, List.map_append, em]
              unfold fmk
              rw [← hj', ← ec]
              exact congrArg (fun z => some (HO.lst (_ ++ [z]))) (int_congr (by omega))
    · obtain ⟨y3, y4, y5, rfl, g1, s1⟩ := hp
      rw [hlu, ← lf, List.take_length] at g1
      exact ⟨_, rfl, q _ _ s1 g1⟩
end
/-! ### the law's own round -/
section
variable {P : Program} {w : World} {K : PySem.W.Frag} {mg : Str → Option Value} {base : Heap}
theorem scRound : FnScope ["some", "found", "at", "digit", "low", "high"] ["some"] (defScope sRound) := ⟨rfl, rfl, rfl, by decide +kernel, rfl, by decide +kernel, by decide +kernel⟩
def spRound (K : PySem.W.Frag) : Sp := fun vs H Q _ => ∃ (a : Addr) (ns : List Nat), vs = [.ref a] ∧ SqA K H a (vN ns) ∧ M07.Unl ns ∧ ns ≠ [] ∧ ns.length ≤ 100000 ∧
  ∀ H' p, Same H H' → H' p = some (.lst (vN (M07.round ns))) → Q (.ref p) H'
theorem ok_round {f : Addr} {fd : FuncData} {k : Nat} (F : Fun K "_law_round" "_law_round" sRound f fd) (ml : mg "len" = none) (mr : mg "range" = none) : FnOk P w K mg base CX0 (k + 1) f fd ["some"] (spRound K) := by
  refine F.ok scRound (fun vs H Q E h => ?_) (fun cdv A outer s H vs Q E hr h => ?_)
  · obtain ⟨a, ns, rfl, _⟩ := h
    rfl
  · obtain ⟨a, ns, rfl, hS, un, ne, hl, q⟩ := h
    refine ⟨_, pss_cons (ps_set (i := 1) scRound.nd rfl (.inl rfl) (pe_lst (pa_cons (pe_op op_mod (pe_ix ix_seq (pv 0) pe_int (fun _ _ => rfl)) pe_int) pa_nil)))
      (pss_cons (ps_for PassesOwn.never rfl (pi_range2 (by rfl) mr (pa_cons pe_int (pa_cons (pe_callB call_len_seq (by rfl) ml PySem.boot_len (pa_cons (pv 0) pa_nil)) pa_nil))) (pg_name (i := 2) scRound.nd rfl (.inl rfl))
        (pss_cons (ps_par3 (i := 3) (j := 4) (l := 5) (by rfl) scRound.nd rfl rfl rfl (by decide) (by decide) (by decide) rfl rfl rfl
            (pa_cons pe_int (pa_cons (pe_ix ix_seq (pv 0) (pe_op op_sub (pv 2) pe_int) (fun _ _ => rfl)) (pa_cons (pe_ix ix_seq (pv 0) (pv 2) (fun _ _ => rfl)) pa_nil))) (by rfl))
        (pss_cons (ps_while PassesOwn.never (pt_cmpR op_eq (pe_op op_mod (pv 4) pe_int) (pe_op op_mod (pv 5) pe_int) (nomark _))
            (pss_one (ps_par3 (i := 3) (j := 4) (l := 5) (by rfl) scRound.nd rfl rfl rfl (by decide) (by decide) (by decide) rfl rfl rfl
              (pa_cons (pe_op op_add (pv 3) pe_int) (pa_cons (pe_op op_fdiv (pv 4) pe_int) (pa_cons (pe_op op_fdiv (pv 5) pe_int) pa_nil))) (by rfl))))
        (pss_one (ps_expr (pe_bm PySem.F.plainAttrs_list PySem.F.slot_list_append PySem.F.type_list_append mt_append (pv 1) (pa_cons (pe_op op_add (pe_op op_mul pe_int (pv 3)) (pe_op op_mod (pv 5) pe_int)) pa_nil)))))))
      (pss_one (ps_ret (pv 1)))), ?_⟩
    obtain ⟨n, r, rfl⟩ : ∃ n r, ns = n :: r := by
      cases ns with
      | nil => exact absurd rfl ne
      | cons n r => exact ⟨n, r, rfl⟩
    refine ⟨.ref a, rfl, hS.ix (v := .int n) (atI_nat (j := 0) (by rfl)) ⟨_, 2, rfl, rfl, (show (0 : Int) < 2 by decide), (show 1 ≤ sizeLine from by decide), fun fd hfd => ?_⟩⟩
    have e0 : (n : Int) % 2 = ((n % 2 : Nat) : Int) := by omega
    refine ⟨.ref a, rfl, a, vN (n :: r), rfl, hS.same (sameN hfd), 1, _, rfl, ⟨by decide, by decide, ?_, ?_⟩, ?_⟩
    · show -(2 ^ 62) ≤ (((vN (n :: r)).length : Nat) : Int)
      omega
    · show (((vN (n :: r)).length : Nat) : Int) < 2 ^ 62
      rw [vN_len]
      omega
    have hn : ((((vN (n :: r)).length : Nat) : Int) - 1).toNat = r.length := by
      rw [vN_len, List.length_cons]
      omega
    refine for_range (fun i σ H' => ∃ y2 y3 y4 y5, σ = [some (.ref a), some (.ref fd), y2, y3, y4, y5] ∧ H' = upd H fd (.lst (vN ((M07.round (n :: r)).take (i + 1)))))
      ⟨none, none, none, none, rfl, ?_⟩ (fun i σ H' hi hp => ?_) (fun σ H' hp => ?_)
    · show upd H fd (.lst [V.int ((n : Int) % 2)]) = _
      rw [e0]
      rfl
    · obtain ⟨y2, y3, y4, y5, rfl, rfl⟩ := hp
      rw [hn] at hi
      have hS' : SqA K (upd H fd (.lst (vN ((M07.round (n :: r)).take (i + 1))))) a (vN (n :: r)) := hS.same (sameN hfd)
      obtain ⟨x, gx⟩ := get_of (l := n :: r) (i := i) (by rw [List.length_cons]; omega)
      obtain ⟨y, gy⟩ := get_of (l := n :: r) (i := i + 1) (by rw [List.length_cons]; omega)
      have hne := M07.Unl.get un gx gy
      have em := M07.round_get (n :: r) i x y gx gy
      obtain ⟨_, s2, s3⟩ := M07.low_spec (x + y + 1) x y (by omega) hne
      have s4 : M07.mk x y = 2 * M07.low (x + y + 1) x y + (y / 2 ^ M07.low (x + y + 1) x y) % 2 := rfl
      generalize M07.low (x + y + 1) x y = L at s2 s3 s4
      refine ⟨.ref a, rfl, _, rfl, _, 1, rfl, rfl, hS'.ix (v := .int x) (at_of (j := i) (by omega) (vN_get gx)) ⟨.ref a, rfl, _, rfl, hS'.ix (v := .int y) (at_of (j := i + 1) (by omega) (vN_get gy)) ⟨_, _, _, rfl, ?_⟩⟩⟩
      refine ⟨fun m σ H' => ∃ t, m = L - t ∧ t ≤ L ∧ σ = [some (.ref a), some (.ref fd), some (.int (1 + i)), some (.int (t : Nat)), some (.int ((x / 2 ^ t : Nat) : Int)), some (.int ((y / 2 ^ t : Nat) : Int))] ∧
          H' = upd H fd (.lst (vN ((M07.round (n :: r)).take (i + 1)))), ⟨L, 0, rfl, Nat.zero_le _, ?_, rfl⟩, ?_⟩
      · simp
      · rintro m σ H' ⟨t, rfl, ht, rfl, rfl⟩
        refine ⟨_, rfl, _, 2, rfl, rfl, (show (0 : Int) < 2 by decide), _, rfl, _, 2, rfl, rfl, (show (0 : Int) < 2 by decide), rfl, _, rfl, ite2 (fun e => ?_) (fun e => ?_)⟩
        · have e1 : ((x / 2 ^ t : Nat) : Int) % 2 = ((y / 2 ^ t : Nat) : Int) % 2 := V.int.inj (of_decide_eq_true e)
          have e2 : (x / 2 ^ t) % 2 = (y / 2 ^ t) % 2 := by omega
          have lt : t < L := by
            rcases Nat.lt_or_ge t L with z | z
            · exact z
            · have : t = L := by omega
              subst this
              exact absurd e2 s2
          refine ⟨fun σ' H' => σ' = [some (.ref a), some (.ref fd), some (.int (1 + i)), some (.int ((t + 1 : Nat) : Nat)), some (.int ((x / 2 ^ (t + 1) : Nat) : Int)), some (.int ((y / 2 ^ (t + 1) : Nat) : Int))] ∧
              H' = upd H fd (.lst (vN ((M07.round (n :: r)).take (i + 1)))), fun σ' H' hN => ⟨L - (t + 1), by omega, t + 1, rfl, lt, hN.1, hN.2⟩, ?_⟩
          refine ⟨_, rfl, _, 1, rfl, rfl, _, rfl, _, 2, rfl, rfl, ⟨by decide, by decide⟩, _, rfl, _, 2, rfl, rfl, ⟨by decide, by decide⟩, _, _, _, rfl, ?_, rfl⟩
          rw [← half_pow x t, ← half_pow y t]
          rfl
        · have e2 : ¬ (x / 2 ^ t) % 2 = (y / 2 ^ t) % 2 := fun z => e (decide_eq_true (int_congr (by omega)))
          have eL : t = L := by
            rcases Nat.lt_or_ge t L with z | z
            · exact absurd (s3 t z) e2
            · omega
          subst eL
          refine ⟨.ref fd, rfl, .inl ⟨rfl, _, .inl (.inl upd_same)⟩, _, rfl, 2, _, rfl, rfl, .inl ⟨by decide, by decide⟩, _, rfl, _, 2, rfl, rfl, (show (0 : Int) < 2 by decide), _, _, rfl, rfl, fd, _, _, rfl, rfl, upd_same, ?_, ?_⟩
          · rw [vN_len]
            exact line5 (small_take (by rw [M07.round_length]; exact hl))
          · refine ⟨_, _, _, _, rfl, ?_⟩
            rw [upd_upd, take_more em, s4]
            refine congrArg (fun z => upd H fd (.lst z)) (Eq.trans ?_ (vN_app _ _).symm)
            exact congrArg (fun z => vN ((M07.round (n :: r)).take (i + 1)) ++ [z]) (int_congr (a := 2 * (t : Int) + ((y / 2 ^ t : Nat) : Int) % 2) (by omega))
    · obtain ⟨y2, y3, y4, y5, rfl, rfl⟩ := hp
      rw [hn, List.take_of_length_le (by rw [M07.round_length]; exact Nat.le_refl _)]
      exact ⟨.ref fd, rfl, q _ _ (sameN hfd) upd_same⟩
end
/-! ### the law's own pieces -/
section
variable {P : Program} {w : World} {K : PySem.W.Frag} {mg : Str → Option Value} {base : Heap}
theorem scLMarks : FnScope ["row", "found", "turn"] ["row"] (defScope sLMarks) := ⟨rfl, rfl, rfl, by decide +kernel, rfl, by decide +kernel, by decide +kernel⟩
abbrev nmLP : List Str := ["row", "tops", "found", "begins", "begin", "end", "at"]
theorem scLPieces : FnScope nmLP ["row"] (defScope sLPieces) := ⟨rfl, rfl, rfl, by decide +kernel, rfl, by decide +kernel, by decide +kernel⟩
/-- a row of nodes, in a list -/
def RowW (K : PySem.W.Frag) (m : Nat) (H : Hp) (a : Addr) (ns : List Nd) : Prop := ∃ us l, H a = some (.lst us) ∧ NdsV K H us ns ∧ OkAll ns l ∧ Unb ns ∧ wide l ≤ 1000000 ∧ (∀ n ∈ ns, ht n < m) ∧ 2 ≤ ns.length ∧ ns.length ≤ 100000
theorem RowW.same {m : Nat} {H H' : Hp} {a : Addr} {ns : List Nd} (h : RowW K m H a ns) (s : Same H H') : RowW K m H' a ns := by
  obtain ⟨us, l, h1, h2, h3⟩ := h
  exact ⟨us, l, s _ _ h1, h2.up (.of s), h3⟩
theorem slice_anyL {H : Hp} {a : Addr} {xs : List V} {b e : Nat} {Q : VK} (h : H a = some (.lst xs)) (h1 : b ≤ e) (h2 : e ≤ xs.length) (q : ∀ H' t, Same H H' → H' t = some (.lst ((xs.take e).drop b)) → Q (.ref t) H') : rSlL K (.ref a) (some (b : Int)) (some (e : Int)) H Q := by
  refine ⟨a, xs, rfl, .inl (.inl h), fun p hp => q _ p (sameN hp) ?_⟩
  rw [upd_same]
  unfold cutV
  rw [HT.sIx_nat, HT.sIx_nat, Nat.min_eq_left h2, Nat.min_eq_left (Nat.le_trans h1 h2), List.drop_take]
def spLMarks (K : PySem.W.Frag) (m : Nat) : Sp := fun vs H Q _ => ∃ (a : Addr) (ns : List Nd), vs = [.ref a] ∧ RowW K m H a ns ∧ ∀ H' p, Same H H' → H' p = some (.lst (vN (mrk ns))) → Q (.ref p) H'
/-- tuples that hold the pieces -/
def PcsV (K : PySem.W.Frag) (H : Hp) (ns : List Nd) (ws : List V) (zs : List (Nat × Nat)) : Prop := ws.length = zs.length ∧ ∀ (i : Nat) (v : V), ws[i]? = some v → ∃ (z : Nat × Nat) (t : Addr) (us : List V), zs[i]? = some z ∧ v = .ref t ∧ SqT K H t us ∧ NdsV K H us (pce ns z)
theorem PcsV.nil {H : Hp} {ns : List Nd} : PcsV K H ns [] [] := ⟨rfl, fun i v h => by simp at h⟩
theorem PcsV.up {H H' : Hp} {ns : List Nd} {ws : List V} {zs : List (Nat × Nat)} (h : PcsV K H ns ws zs) (e : Tups K H H') : PcsV K H' ns ws zs := ⟨h.1, fun i v hv => by
  obtain ⟨z, t, us, h1, h2, h3, h4⟩ := h.2 i v hv
  exact ⟨z, t, us, h1, h2, e _ _ h3, h4.up e⟩⟩
theorem PcsV.app {H : Hp} {ns : List Nd} {ws : List V} {zs : List (Nat × Nat)} {z : Nat × Nat} {t : Addr} {us : List V} (h : PcsV K H ns ws zs) (ht : SqT K H t us) (hn : NdsV K H us (pce ns z)) : PcsV K H ns (ws ++ [.ref t]) (zs ++ [z]) := by
  refine ⟨by rw [List.length_append, List.length_append, h.1]; rfl, fun i v hv => ?_⟩
  by_cases c : i < ws.length
  · rw [List.getElem?_append_left c] at hv
    obtain ⟨z', t', us', h1, h2⟩ := h.2 i v hv
    exact ⟨z', t', us', by rw [List.getElem?_append_left (by rw [← h.1]; exact c)]; exact h1, h2⟩
  · rw [List.getElem?_append_right (by omega)] at hv
    have e0 : i - ws.length = 0 := by
      rcases Nat.eq_zero_or_pos (i - ws.length) with z' | z'
      · exact z'
      · rw [List.getElem?_eq_none_iff.mpr (by simp; omega)] at hv
        cases hv
    rw [e0] at hv
    have hv := Option.some.inj hv
    refine ⟨z, t, us, ?_, hv.symm, ht, hn⟩
    rw [List.getElem?_append_right (by rw [← h.1]; omega), ← h.1, e0]
    rfl
def spLPieces (K : PySem.W.Frag) (m : Nat) : Sp := fun vs H Q _ => ∃ (a : Addr) (ns : List Nd), vs = [.ref a] ∧ RowW K m H a ns ∧ ∀ H' p ws, Same H H' → H' p = some (.lst ws) → PcsV K H' ns ws (pieces ns) → Q (.ref p) H'
theorem ok_lmarks {f g h' : Addr} {fd gd hd : FuncData} {m : Nat} (F : Fun K "_law_marks" "_law_marks" sLMarks f fd) (G : FnOk P w K mg base CX0 (m + 2) g gd ["row"] (spLFirst K m)) (G' : Fun K "_law_first" "_law_first" sLFirst g gd) (gG : mg "_law_first" = some (.ref g)) (bG : Binds K gd ["row"] [])
    (N : FnOk P w K mg base CX0 1 h' hd ["some"] (spRound K)) (N' : Fun K "_law_round" "_law_round" sRound h' hd) (gN : mg "_law_round" = some (.ref h')) (bN : Binds K hd ["some"] []) (mr : mg "range" = none) : FnOk P w K mg base CX0 (m + 3) f fd ["row"] (spLMarks K m) := by
  refine F.ok scLMarks (fun vs H Q E h => ?_) (fun cdv A outer s H vs Q E hr h => ?_)
  · obtain ⟨a, ns, rfl, _⟩ := h
    rfl
  · obtain ⟨a, ns, rfl, ⟨us, l, hT, hN, ok, un, hw, hh, h2, hl⟩, q⟩ := h
    have r1 := hr.mono (j := 1) (by omega)
    refine ⟨_, pss_cons (ps_set (i := 1) scLMarks.nd rfl (.inl rfl) (pe_call G hr (by rfl) gG G'.kp bG .nil pass0 (pa_cons (pv 0) pa_nil)))
      (pss_cons (ps_for PassesOwn.never rfl (pi_range1 (by rfl) mr (pa_cons pe_int pa_nil)) (pg_name (i := 2) scLMarks.nd rfl (.inl rfl))
        (pss_one (ps_set (i := 1) scLMarks.nd rfl (.inl rfl) (pe_call N r1 (by rfl) gN N'.kp bN .nil pass0 (pa_cons (pv 1) pa_nil)))))
      (pss_one (ps_ret (pv 1)))), ?_⟩
    refine ⟨.ref a, rfl, a, us, ns, l, rfl, .inl (.inl hT), hN, ok, un, hw, hh, hl, fun H1 p s1 hp => ?_⟩
    have u0 : M07.Unl (fms (ns.map cd)) := fms_unl _ (cds_sgs ns) (unlT_of ok un)
    refine ⟨4, rfl, by decide, by decide, ?_⟩
    refine for_range (fun i σ H' => ∃ p y2, σ = [some (.ref a), some (.ref p), y2] ∧ H' p = some (.lst (vN (rd i (fms (ns.map cd))))) ∧ Same H H') ⟨p, none, rfl, hp, s1⟩ (fun i σ H2 hi hp => ?_) (fun σ H' hp => ?_)
    · obtain ⟨p, y2, rfl, hp, s2⟩ := hp
      have ln : (rd i (fms (ns.map cd))).length = ns.length := by rw [rd_len, fms_length, List.length_map]
      refine ⟨.ref p, rfl, p, _, rfl, .inl (.inl (.inl hp)), rd_unl i _ u0, ?_, ?_, fun H3 p3 s3 h3 => ⟨p3, _, rfl, h3, s2.trans s3⟩⟩
      · intro z
        rw [z] at ln
        have : 0 = ns.length := ln
        omega
      · rw [ln]
        exact hl
    · obtain ⟨p, y2, rfl, hp, s2⟩ := hp
      exact ⟨_, rfl, q _ _ s2 hp⟩
theorem str_step {d b : Nat} (h : 4 ≤ d) : M10.str d b = (b, b + 2) :: M10.str (d - 2) (b + 2) := by
  obtain ⟨k, rfl⟩ : ∃ k, d = k + 4 := ⟨d - 4, by omega⟩
  rfl
theorem str_last {d b : Nat} (h : d < 4) : M10.str d b = [(b, b + d)] := by
  match d, h with
  | 0, _ => rfl
  | 1, _ => rfl
  | 2, _ => rfl
  | 3, _ => rfl
theorem flat_le {st : List (Nat × Nat)} {i n : Nat} (h : (st.flatMap M10.stz).length ≤ n) : ((st.take i).flatMap M10.stz).length ≤ n := by
  have e1 : (st.take i).flatMap M10.stz ++ (st.drop i).flatMap M10.stz = st.flatMap M10.stz := by rw [← List.flatMap_append, List.take_append_drop]
  have e2 := congrArg List.length e1
  rw [List.length_append] at e2
  omega
theorem ok_lpieces {f g : Addr} {fd gd : FuncData} {m : Nat} (F : Fun K "_law_pieces" "_law_pieces" sLPieces f fd) (G : FnOk P w K mg base CX0 (m + 3) g gd ["row"] (spLMarks K m)) (G' : Fun K "_law_marks" "_law_marks" sLMarks g gd) (gG : mg "_law_marks" = some (.ref g)) (bG : Binds K gd ["row"] [])
    (mr : mg "range" = none) (ml : mg "len" = none) (mt : mg "tuple" = none) (mz : mg "zip" = none) (mx : mg "max" = none) : FnOk P w K mg base CX0 (m + 4) f fd ["row"] (spLPieces K m) := by
  refine F.ok scLPieces (fun vs H Q E h => ?_) (fun cdv A outer s H vs Q E hr h => ?_)
  · obtain ⟨a, ns, rfl, _⟩ := h
    rfl
  · obtain ⟨a, ns, rfl, hR, q⟩ := h
    refine ⟨_, pss_cons (ps_asg (pe_tup (pa_cons (pe_call G hr (by rfl) gG G'.kp bG .nil pass0 (pa_cons (pv 0) pa_nil)) (pa_cons (pe_lst pa_nil) pa_nil)))
          (pg_tup rfl (pgs_cons (pg_name (i := 1) scLPieces.nd rfl (.inr rfl)) (pgs_cons (pg_name (i := 2) scLPieces.nd rfl (.inl rfl)) pgs_nil))))
      (pss_cons (ps_setLc (i := 3) (own := [("at", 6)]) (g := gName 6)
          (tt := tTest (tOp (rI0 fun i j => .bl (decide (j < i))) (tOp (rIxL K) (tVar 1) (tVar 6)) (tCB (fun xs H Q => ∃ i j, xs = [V.int i, .int j] ∧ Q (.int (if j > i then j else i)) H)
            (tCons (tOp (rIxL K) (tVar 1) (tOp (rI0 fun i j => .int (i - j)) (tVar 6) (tC (.int 1)))) (tCons (tOp (rIxL K) (tVar 1) (tOp (rI0 fun i j => .int (i + j)) (tVar 6) (tC (.int 1)))) tNil)))))
          rfl scLPieces.nd rfl rfl (sw_true rfl rfl rfl (by decide +kernel))
          (pi_range2 (by rfl) mr (pa_cons pe_int (pa_cons (pe_op op_sub (pe_callB call_len_seq (by rfl) ml PySem.boot_len (pa_cons (pv 0) pa_nil)) pe_int) pa_nil)))
          (blkOk_by (N := nmLP) (sc := defScope sLPieces) (by decide +kernel)) (fun _ _ _ _ _ => pg_name (i := 6) scLPieces.nd rfl (Or.inl rfl))
          (fun _ _ _ _ _ => pts_one (pt_cmpR op_gt (pe_ix ix_list (pv 1) (pv 6) (fun _ _ => rfl)) (pe_callB (L2.call_max2 rfl) (by rfl) mx (by decide +kernel) (pa_cons (pe_ix ix_list (pv 1) (pe_op op_sub (pv 6) pe_int) (fun _ _ => rfl))
            (pa_cons (pe_ix ix_list (pv 1) (pe_op op_add (pv 6) pe_int) (fun _ _ => rfl)) pa_nil))) (nomark _)))
          (fun _ _ _ _ _ => pv 6))
      (pss_cons (ps_for PassesOwn.never rfl (pi_zipA (by rfl) mz (pa_cons (pe_op op_cat (pe_lst (pa_cons pe_int pa_nil)) (pv 3)) (pa_cons (pe_op op_cat (pv 3) (pe_lst (pa_cons (pe_callB call_len_seq (by rfl) ml PySem.boot_len (pa_cons (pv 0) pa_nil)) pa_nil))) pa_nil)))
          (pg_tup rfl (pgs_cons (pg_name (i := 4) scLPieces.nd rfl (.inl rfl)) (pgs_cons (pg_name (i := 5) scLPieces.nd rfl (.inl rfl)) pgs_nil)))
        (pss_cons (ps_while PassesOwn.never (pt_cmpR op_gt (pe_op op_sub (pv 5) (pv 4)) pe_int (nomark _))
            (pss_cons (ps_expr (pe_bm PySem.F.plainAttrs_list PySem.F.slot_list_append PySem.F.type_list_append mt_append (pv 2) (pa_cons (pe_callTy call_tuple_of (by rfl) mt PyProof.Rows.boot_tuple
                (pa_cons (pe_slice sl_list (pv 0) (po_some (pv 4)) (po_some (pe_op op_add (pv 4) pe_int))) pa_nil)) pa_nil)))
              (pss_one (ps_set (i := 4) scLPieces.nd rfl (.inl rfl) (pe_op op_add (pv 4) pe_int)))))
        (pss_one (ps_expr (pe_bm PySem.F.plainAttrs_list PySem.F.slot_list_append PySem.F.type_list_append mt_append (pv 2) (pa_cons (pe_callTy call_tuple_of (by rfl) mt PyProof.Rows.boot_tuple
                (pa_cons (pe_slice sl_list (pv 0) (po_some (pv 4)) (po_some (pv 5))) pa_nil)) pa_nil))))))
      (pss_one (ps_ret (pv 2))))), ?_⟩
    refine ⟨.ref a, rfl, a, ns, rfl, hR, fun H1 p s1 hp => ?_⟩
    obtain ⟨us, l0, hT, hN, _, _, _, _, h2, hl⟩ := hR.same s1
    have hlu := hN.len
    have lm := mrk_len ns
    have gap := gap_row h2
    have con := pieces_cont h2
    have lp := pieces_fst_len h2
    refine ⟨(show 0 ≤ sizeLine from by decide), fun FF nF => ⟨(show 2 ≤ sizeLine from by decide), fun T0 nT0 => ?_⟩⟩
    have naF : a ≠ FF := ne_of_none hT nF
    have sT0 := sameN (o := .tup [V.ref p, .ref FF]) nT0
    have sF := (sameN (o := .lst []) nF).trans sT0
    refine ⟨T0, [.ref p, .ref FF], rfl, .inl (.inl upd_same), rfl, .ref p, [.ref FF], rfl, .ref FF, [], rfl, rfl, ?_⟩
    have gF2 := sT0 _ _ (upd_same (H := H1) (a := FF) (o := .lst []))
    have hp2 := sF _ _ hp
    have hT2 := sF _ _ hT
    have hN2 := hN.up (.of (K := K) sF)
    generalize upd (upd H1 FF (.lst [])) T0 (.tup [V.ref p, .ref FF]) = H2 at sF gF2 hp2 hT2 hN2 ⊢
    -- begins
    refine ⟨.ref a, rfl, a, us, rfl, .inl (.inl (.inl hT2)), _, _, rfl, rfl, 2, _, rfl, ⟨by decide, by decide, by omega, by omega⟩, fun D nD => ?_⟩
    have n0 : ((((us.length : Nat) : Int) - 1) - 2).toNat = ns.length - 3 := by omega
    refine lc_range (fun i H' => H' D = some (.lst (vN ((List.range' 2 i).filter (M10.pk (mrk ns))))) ∧ Same H2 H') ⟨upd_same, sameN nD⟩ (fun i H' hi hp' => ?_) (fun H3 hp' => ?_)
    · obtain ⟨gD, sD⟩ := hp'
      rw [n0] at hi
      have pM : SqL K H' p (vN (mrk ns)) := .inl (.inl (sD _ _ hp2))
      obtain ⟨x, hx⟩ := get_of (l := mrk ns) (i := i + 1) (by omega)
      obtain ⟨y, hy⟩ := get_of (l := mrk ns) (i := i + 2) (by omega)
      obtain ⟨z, hz⟩ := get_of (l := mrk ns) (i := i + 3) (by omega)
      have ek : M10.pk (mrk ns) (2 + i) = (decide (x < y) && decide (z < y)) := by
        unfold M10.pk
        rw [show 2 + i - 1 = i + 1 by omega, show 2 + i = i + 2 by omega, hx, hy, show i + 2 + 1 = i + 3 by omega, hz]
      refine ⟨rfl, ?_⟩
      refine ⟨.ref p, rfl, _, rfl, p, _, ((i + 2 : Nat) : Int), .int y, rfl, int_congr (by omega), pM, atI_nat (vN_get hy), .ref p, rfl, _, rfl, _, 1, rfl, rfl, p, _, ((i + 1 : Nat) : Int), .int x, rfl, int_congr (by omega), pM, atI_nat (vN_get hx),
        .ref p, rfl, _, rfl, _, 1, rfl, rfl, p, _, ((i + 3 : Nat) : Int), .int z, rfl, int_congr (by omega), pM, atI_nat (vN_get hz), _, _, rfl, _, _, rfl, rfl, _, rfl, ite2 (fun e => ?_) (fun e => ?_)⟩
      · have e1 : x < y ∧ z < y := by
          have := of_decide_eq_true e
          split at this <;> omega
        refine ⟨_, rfl, _, gD, ?_, ?_, sameW sD nD⟩
        · rw [vN_len]
          refine line5 (Nat.le_trans (List.length_filter_le _ _) ?_)
          rw [List.length_range']
          omega
        · rw [upd_same, range'_more, List.filter_append, List.filter_cons_of_pos (by rw [ek, decide_eq_true e1.1, decide_eq_true e1.2]; rfl), List.filter_nil, vN_app]
          exact congrArg (fun z => some (HO.lst (_ ++ [z]))) (int_congr (by omega))
      · have e1 : (decide (x < y) && decide (z < y)) = false := by
          rw [Bool.and_eq_false_iff, decide_eq_false_iff_not, decide_eq_false_iff_not]
          by_cases c : x < y
          · refine .inr fun c2 => e (decide_eq_true ?_)
            split <;> omega
          · exact .inl c
        rw [range'_more, List.filter_append, List.filter_cons_of_neg (by rw [ek, e1]; simp), List.filter_nil, List.append_nil]
        exact ⟨gD, sD⟩
    obtain ⟨gD, sD⟩ := hp'
    have gD : H3 D = some (.lst (vN (tops ns))) := by
      rw [n0] at gD
      unfold tops M10.pks
      rw [lm]
      exact gD
    have gF3 := sD _ _ gF2
    have hT3 := sD _ _ hT2
    have hN3 := hN2.up (.of (K := K) sD)
    have s13 : Same H H3 := (s1.trans sF).trans sD
    have tl : (tops ns).length ≤ ns.length := by
      unfold tops M10.pks
      refine Nat.le_trans (List.length_filter_le _ _) ?_
      rw [List.length_range', mrk_len]
      omega
    -- zip
    refine ⟨(show 1 ≤ sizeLine from by decide), fun t0 n0' => ⟨.ref D, rfl, t0, D, [.int 0], vN (tops ns), rfl, rfl, upd_same, sameN n0' _ _ gD, Nat.le_trans (show 1 + (vN (tops ns)).length ≤ 100001 by rw [vN_len]; omega) (by decide), fun b nb => ?_⟩⟩
    have nbF : b ≠ FF := (ne_of_none (sameN n0' _ _ gF3) nb).symm
    have sb := (sameN (o := .lst [.int 0]) n0').trans (sameN (o := .lst ([.int 0] ++ vN (tops ns))) nb)
    have gb := upd_same (H := upd H3 t0 (.lst [.int 0])) (a := b) (o := .lst ([.int 0] ++ vN (tops ns)))
    generalize upd (upd H3 t0 (.lst [.int 0])) b (.lst ([.int 0] ++ vN (tops ns))) = H4 at sb gb ⊢
    refine ⟨.ref D, rfl, .ref a, rfl, a, us, rfl, .inl (.inl (.inl (sb _ _ hT3))), (show 1 ≤ sizeLine from by decide), fun t1 n1 => ⟨D, t1, vN (tops ns), _, rfl, rfl, sameN n1 _ _ (sb _ _ gD), upd_same, Nat.le_trans (show (vN (tops ns)).length + 1 ≤ 100001 by rw [vN_len]; omega) (by decide), fun e ne => ?_⟩⟩
    have neF : e ≠ FF := (ne_of_none (sameN n1 _ _ (sb _ _ gF3)) ne).symm
    have se := (sameN (o := .lst [.int ((us.length : Nat) : Int)]) n1).trans (sameN (o := .lst (vN (tops ns) ++ [.int ((us.length : Nat) : Int)])) ne)
    have ge := upd_same (H := upd H4 t1 (.lst [.int ((us.length : Nat) : Int)])) (a := e) (o := .lst (vN (tops ns) ++ [.int ((us.length : Nat) : Int)]))
    have gb5 := se _ _ gb
    have s35 := sb.trans se
    have gF5 := s35 _ _ gF3
    have hT5 := s35 _ _ hT3
    have hN5 := hN3.up (.of (K := K) s35)
    have s15 := s13.trans s35
    generalize upd (upd H4 t1 (.lst [.int ((us.length : Nat) : Int)])) e (.lst (vN (tops ns) ++ [.int ((us.length : Nat) : Int)])) = H5 at gb5 ge gF5 hT5 hN5 s15 ⊢
    have gb6 : H5 b = some (.lst (vN ((M10.sts ns.length 0 (tops ns)).map (·.1)))) := by
      rw [M10.sts_fst]
      exact gb5
    have ge6 : H5 e = some (.lst (vN ((M10.sts ns.length 0 (tops ns)).map (·.2)))) := by
      rw [M10.sts_snd, vN_app, ← hlu]
      exact ge
    have sgap := M10.sts_gap gap
    unfold pieces M10.pcs at lp q
    generalize M10.sts ns.length 0 (tops ns) = st at gb6 ge6 lp q sgap
    refine ⟨b, e, _, _, rfl, .inl ⟨.inl (.inl gb6), .inl (.inl ge6), ?_⟩⟩
    refine for_zipL (xs := vN (st.map (·.1))) (ys := vN (st.map (·.2))) (by simp) (fun i σ H' => ∃ ws y4 y5, σ = [some (.ref a), some (.ref p), some (.ref FF), some (.ref D), y4, y5, none] ∧ H' FF = some (.lst ws) ∧ PcsV K H' ns ws ((st.take i).flatMap M10.stz) ∧ But FF H5 H')
      ⟨[], none, none, rfl, gF5, .nil, .refl FF H5⟩ (fun i σ H' hp' => ?_) (fun i x y T σ H' hx hy hp' nT => ?_) (fun σ H' hp' => ?_)
    · obtain ⟨_, _, _, _, _, _, b4⟩ := hp'
      exact ⟨.inl (.inl (b4.at nbF gb6)), .inl (.inl (b4.at neF ge6))⟩
    · obtain ⟨ws, y4, y5, rfl, gF, pV, b4⟩ := hp'
      obtain ⟨z, hz, rfl⟩ : ∃ z, st[i]? = some z ∧ x = .int (z.1 : Nat) := by
        rw [List.getElem?_map, List.getElem?_map, Option.map_map] at hx
        obtain ⟨z, hz, rfl⟩ := Option.map_eq_some_iff.mp hx
        exact ⟨z, hz, rfl⟩
      have ey : y = .int (z.2 : Nat) := by
        rw [List.getElem?_map, List.getElem?_map, hz] at hy
        exact (Option.some.inj hy).symm
      subst ey
      have hzb := sgap z (List.mem_of_getElem? hz)
      have tk : st.take (i + 1) = st.take i ++ [z] := take_more hz
      have tg : (st.take (i + 1)).flatMap M10.stz = (st.take i).flatMap M10.stz ++ M10.stz z := by
        rw [tk, List.flatMap_append]
        simp
      have tle := flat_le (i := i + 1) lp
      rw [tg] at tle
      have sT := sameN (o := .tup [V.int (z.1 : Nat), .int (z.2 : Nat)]) nT
      refine ⟨T, [.int (z.1 : Nat), .int (z.2 : Nat)], rfl, .inl (.inl upd_same), rfl, _, [.int (z.2 : Nat)], rfl, _, [], rfl, rfl, ?_⟩
      refine ⟨fun m' σ H'' => ∃ bb ws' dn, m' = z.2 - bb ∧ bb + 2 ≤ z.2 ∧ σ = [some (.ref a), some (.ref p), some (.ref FF), some (.ref D), some (.int (bb : Nat)), some (.int (z.2 : Nat)), none] ∧ H'' FF = some (.lst ws') ∧ PcsV K H'' ns ws' dn ∧
          dn ++ M10.str (z.2 - bb) bb = (st.take i).flatMap M10.stz ++ M10.stz z ∧ But FF H5 H'', ⟨_, z.1, ws, _, rfl, hzb.1, rfl, sT _ _ gF, pV.up (.of sT), rfl, b4.trans (Same.but sT)⟩, ?_⟩
      rintro m' σ H6 ⟨bb, ws', dn, rfl, hb2, rfl, gF6, pV6, ed, b6⟩
      have hT6 : H6 a = some (.lst us) := b6.at naF hT5
      have hN6 : NdsV K H6 us ns := hN5.up (b6.tups gF5)
      have ldn : dn.length ≤ ns.length := by
        have := congrArg List.length ed
        rw [List.length_append] at this
        omega
      have lws : ws'.length ≤ 100000 := by rw [pV6.1]; omega
      refine ⟨_, rfl, _, rfl, _, _, rfl, rfl, _, _, rfl, rfl, _, rfl, ite2 (fun e' => ?_) (fun e' => ?_)⟩
      · have e4 : 4 ≤ z.2 - bb := by
          have := of_decide_eq_true e'
          omega
        refine ⟨fun σ' H'' => ∃ ws2 dn2, σ' = [some (.ref a), some (.ref p), some (.ref FF), some (.ref D), some (.int ((bb + 2 : Nat) : Int)), some (.int (z.2 : Nat)), none] ∧ H'' FF = some (.lst ws2) ∧ PcsV K H'' ns ws2 dn2 ∧
          dn2 ++ M10.str (z.2 - (bb + 2)) (bb + 2) = (st.take i).flatMap M10.stz ++ M10.stz z ∧ But FF H5 H'', fun σ' H'' hN => ?_, ?_⟩
        · obtain ⟨ws2, dn2, k1, k2, k3, k4, k5⟩ := hN
          exact ⟨z.2 - (bb + 2), by omega, bb + 2, ws2, dn2, rfl, by omega, k1, k2, k3, k4, k5⟩
        refine ⟨.ref FF, rfl, .inl ⟨rfl, _, .inl (.inl gF6)⟩, .ref a, rfl, _, rfl, _, rfl, _, rfl, _, 2, rfl, rfl, _, rfl, slice_anyL (e := bb + 2) hT6 (by omega) (by omega) fun H7' t7' s7' h7' => ⟨t7', _, rfl, .inl ⟨.inl (.inl h7'), fun t7 n7 => ?_⟩⟩⟩
        have s7 := s7'.trans (sameN (o := .tup ((us.take (bb + 2)).drop bb)) n7)
        have h7 : SqT K (upd H7' t7 (.tup ((us.take (bb + 2)).drop bb))) t7 ((us.take (bb + 2)).drop bb) := .inl (.inl upd_same)
        generalize upd H7' t7 (.tup ((us.take (bb + 2)).drop bb)) = H7 at s7 h7 ⊢
        have gF7 := s7 _ _ gF6
        have t9 : Tups K H7 (upd H7 FF (.lst (ws' ++ [.ref t7]))) := (But.set (p := FF)).tups gF7
        refine ⟨FF, _, _, rfl, rfl, gF7, line5 lws, _, rfl, _, 2, rfl, rfl, ws' ++ [.ref t7], dn ++ [(bb, bb + 2)], rfl, upd_same, ?_, ?_, (b6.trans (Same.but s7)).trans .set⟩
        · exact ((pV6.up (.of (K := K) s7)).app (z := (bb, bb + 2)) h7 (ndsV_drop bb ((hN6.up (.of (K := K) s7)).take (bb + 2)))).up t9
        · rw [← ed, str_step e4, show z.2 - bb - 2 = z.2 - (bb + 2) by omega]
          simp
      · have e4 : z.2 - bb < 4 := by
          have : ¬ (3 : Int) < (z.2 : Nat) - (bb : Nat) := fun c => e' (decide_eq_true c)
          omega
        refine ⟨.ref FF, rfl, .inl ⟨rfl, _, .inl (.inl gF6)⟩, .ref a, rfl, _, rfl, _, rfl, _, rfl, _, rfl, slice_anyL (e := z.2) hT6 (by omega) (by omega) fun H7' t7' s7' h7' => ⟨t7', _, rfl, .inl ⟨.inl (.inl h7'), fun t7 n7 => ?_⟩⟩⟩
        have s7 := s7'.trans (sameN (o := .tup ((us.take z.2).drop bb)) n7)
        have h7 : SqT K (upd H7' t7 (.tup ((us.take z.2).drop bb))) t7 ((us.take z.2).drop bb) := .inl (.inl upd_same)
        generalize upd H7' t7 (.tup ((us.take z.2).drop bb)) = H7 at s7 h7 ⊢
        have gF7 := s7 _ _ gF6
        have t9 : Tups K H7 (upd H7 FF (.lst (ws' ++ [.ref t7]))) := (But.set (p := FF)).tups gF7
        refine ⟨FF, _, _, rfl, rfl, gF7, line5 lws, ws' ++ [.ref t7], _, _, rfl, upd_same, ?_, (b6.trans (Same.but s7)).trans .set⟩
        rw [tg, ← ed, str_last e4, show bb + (z.2 - bb) = z.2 by omega]
        exact ((pV6.up (.of (K := K) s7)).app (z := (bb, z.2)) h7 (ndsV_drop bb ((hN6.up (.of (K := K) s7)).take z.2))).up t9
    · obtain ⟨ws, y4, y5, rfl, gF, pV, b4⟩ := hp'
      have full : st.take (vN (st.map (·.1))).length = st := List.take_of_length_le (by simp)
      rw [full] at pV
      have nFH : H FF = none := freeS s1 nF
      exact ⟨_, rfl, q H' FF ws (fun c o hc => b4 c o (ne_of_none hc nFH) (s15 _ _ hc)) gF pV⟩
end
section
variable {P : Program} {w : World} {K : PySem.W.Frag} {mg : Str → Option Value} {base : Heap}
theorem scJoined : FnScope ["nodes", "found", "node", "count"] ["nodes"] (defScope sJoined) := ⟨rfl, rfl, rfl, by decide +kernel, rfl, by decide +kernel, by decide +kernel⟩
def spJoined (K : PySem.W.Frag) : Sp := fun vs H Q _ => ∃ (a : Addr) (us : List V) (ns : List Nd) (l : Nat), vs = [.ref a] ∧ SqL K H a us ∧ NdsV K H us ns ∧ OkAll ns l ∧ l ≤ 20 ∧ ns.length ≤ 100000 ∧
  ∀ H' p ws, Same H H' → H p = none → H' p = some (.lst ws) → NdsV K H' ws (mkRuns ns) → Q (.ref p) H'
theorem ok_joined {f : Addr} {fd : FuncData} {k : Nat} (F : Fun K "_law_joined" "_law_joined" sJoined f fd) : FnOk P w K mg base CX0 (k + 1) f fd ["nodes"] (spJoined K) := by
  refine F.ok scJoined (fun vs H Q E h => ?_) (fun cdv A outer s H vs Q E hr h => ?_)
  · obtain ⟨a, us, ns, l, rfl, _⟩ := h
    rfl
  · obtain ⟨a, us, ns, l, rfl, hS, hn, ok, l20, hlen, q⟩ := h
    refine ⟨_, pss_cons (ps_set (i := 1) scJoined.nd rfl (.inl rfl) (pe_lst pa_nil))
      (pss_cons (ps_for PassesOwn.never rfl (pi_list (pv 0)) (pg_name (i := 2) scJoined.nd rfl (.inl rfl))
        (pss_one (ps_if (PW.pt (pw_and (pt_cmpR (op_neD hr.units) (pv 1) (pe_lst pa_nil) (nomark _)) (pw_and1 (pt_cmpR (op_eqD hr.units) (pe_ix ix_tup (pe_ix ix_list (pv 1) (pe_un un_neg pe_int) (fun _ _ => rfl)) pe_int (fun _ _ => rfl)) (pv 2) (nomark _)))))
          (pss_one (ps_asg (pe_tup (pa_cons (pv 2) (pa_cons (pe_op op_add (pe_ix ix_tup (pe_ix ix_list (pv 1) (pe_un un_neg pe_int) (fun _ _ => rfl)) pe_int (fun _ _ => rfl)) pe_int) pa_nil))) (pg_sub (pv 1) (pe_un un_neg pe_int) set_list)))
          (pss_one (ps_expr (pe_bm PySem.F.plainAttrs_list PySem.F.slot_list_append PySem.F.type_list_append mt_append (pv 1) (pa_cons (pe_tup (pa_cons (pv 2) (pa_cons pe_int pa_nil))) pa_nil)))))))
      (pss_one (ps_ret (pe_lc (own := [("node", 2), ("count", 3)]) (g := gTup K 2 (gCons (gName 2) (gCons (gName 3) gNil))) (tt := tYes) rfl scJoined.nd (pi_list (pv 1))
        (blkOk_by (N := ["nodes", "found", "node", "count"]) (sc := defScope sJoined) (by decide +kernel))
        (fun _ _ _ _ _ => pg_tup rfl (pgs_cons (pg_name (i := 2) scJoined.nd rfl (Or.inl rfl) (hf := Or.inr rfl)) (pgs_cons (pg_name (i := 3) scJoined.nd rfl (Or.inl rfl) (hf := Or.inr rfl)) pgs_nil))) (fun _ _ _ _ _ => pts_nil)
        (fun _ _ _ _ _ => pe_ifExp (pt_cmpR op_eq (pv 3) pe_int (nomark _)) (pv 2) (pe_tup (pa_cons pe_str (pa_cons (pv 2) (pa_cons (pv 3) pa_nil))))))))), ?_⟩
    have hlu := hn.len
    refine ⟨(show 0 ≤ sizeLine from by decide), fun F0 hF => ?_⟩
    have s0 := sameN (o := .lst []) hF
    refine ⟨.ref a, rfl, a, rfl, ⟨us, s0.seq hS⟩, ?_⟩
    refine for_list (xs := us) (fun i σ H' => ∃ ws y2 y3, σ = [some (.ref a), some (.ref F0), y2, y3] ∧ H' F0 = some (.lst ws) ∧ PrsV K H' ws (grp (ns.take i)) ∧ Same H H') ⟨[], none, none, rfl, upd_same, ?_, s0⟩ (fun i σ H' _ hp => ?_) (fun i x σ H1 hx hp => ?_) (fun σ H' hp => ?_)
    · rw [List.take_zero]
      exact .nil
    · obtain ⟨_, _, _, _, _, _, e⟩ := hp
      exact e.seq hS
    · obtain ⟨ws, y2, y3, rfl, e1, e2, s1⟩ := hp
      obtain ⟨n, hni, kn⟩ := (hn.up (.of s1)).get hx
      have okn := ok.mem n (List.mem_of_getElem? hni)
      have okg : ∀ p ∈ grp (ns.take i), Ok p.1 l := fun p hp => ok.mem _ (List.mem_of_mem_take (grp_foot _ p hp).1)
      have lw : ws.length < sizeLine := by
        rw [DpAll.len e2, List.length_map]
        have g1 := grp_len (ns.take i)
        rw [List.length_take] at g1
        exact line5 (by omega)
      have gm := grp_more ns i n hni
      refine ifs_any (fun b H' => Same H1 H' ∧ (b = true → ∃ r c, grp (ns.take i) = r ++ [(n, c)]) ∧ (b = false → ∀ m c, (grp (ns.take i)).getLast? = some (m, c) → m ≠ n)) (fun b H2 hS2 => ?_) (fun R hR => ?_)
      · obtain ⟨s2, nb1, nb2⟩ := hS2
        have f2 := s2 _ _ e1
        have d2 := e2.up (.of s2)
        cases b with
        | true =>
          obtain ⟨r, c, er⟩ := nb1 rfl
          rw [er] at d2
          obtain ⟨w1, ra, u, rfl, k1, t1, t2⟩ := d2.split
          · skip
            refine ⟨x, rfl, .ref F0, rfl, 1, rfl, F0, _, -1, .ref ra, rfl, rfl, .inl (.inl f2), atI_last _ _, ra, _, 1, .int c, rfl, rfl, t1, rfl, c, 1, rfl, rfl, (show 2 ≤ sizeLine from by decide), fun t ht => ?_⟩
            have s3 := sameN (o := .tup [x, .int ((c : Int) + 1)]) ht
            have f3 := s3 _ _ f2
            refine ⟨.ref F0, rfl, 1, rfl, F0, w1 ++ [.ref ra], -1, w1.length, rfl, rfl, f3, ?_, w1 ++ [.ref t], _, _, rfl, ?_, ?_, sameW (s1.trans (s2.trans s3)) hF⟩
            · rw [List.length_append]
              exact ixN_last
            · rw [upd_same, List.set_append_right _ _ (Nat.le_refl _)]
              simp
            · rw [gm, er, stepG_eq]
              have tt : Tups K (upd H2 t (.tup [x, .int ((c : Int) + 1)])) (upd (upd H2 t (.tup [x, .int ((c : Int) + 1)])) F0 (.lst ((w1 ++ [V.ref ra]).set w1.length (V.ref t)))) := (But.set (p := F0)).tups f3
              refine PrsV.app (PrsV.up tt (PrsV.up (.of s3) k1)) (PrsV.one (p := (n, c + 1)) (tt _ _ (.inl (.inl ?_))) (((kn.up (.of s2)).up (.of s3)).up tt))
              rw [upd_same]
              exact congrArg (fun z => some (HO.tup [x, z])) (int_congr (by omega))
        | false =>
          have ne := stepG_ne (nb2 rfl)
          refine ⟨.ref F0, rfl, .inl ⟨rfl, _, .inl (.inl f2)⟩, x, rfl, (show 2 ≤ sizeLine from by decide), fun t ht => ?_⟩
          have s3 := sameN (o := .tup [x, .int 1]) ht
          have f3 := s3 _ _ f2
          refine ⟨F0, _, _, rfl, rfl, f3, lw, ws ++ [.ref t], _, _, rfl, upd_same, ?_, sameW (s1.trans (s2.trans s3)) hF⟩
          rw [gm, ne]
          have tt : Tups K (upd H2 t (.tup [x, .int 1])) (upd (upd H2 t (.tup [x, .int 1])) F0 (.lst (ws ++ [.ref t]))) := (But.set (p := F0)).tups f3
          exact PrsV.app (PrsV.up tt (PrsV.up (.of s3) d2)) (PrsV.one (p := (n, 1)) (tt _ _ (.inl (.inl upd_same))) (((kn.up (.of s2)).up (.of s3)).up tt))
      · refine ⟨.ref F0, rfl, (show 0 ≤ sizeLine from by decide), fun l9 hl9 => ⟨_, _, .lst (.inl (.inl ?_)) (e2.up (.of (sameN hl9))), .lst (.inl (.inl upd_same)) .nil, shaped_prs okg l20, shaped_nil, _, rfl, ?_⟩⟩
        · rw [upd_ne (ne_of_none e1 hl9)]
          exact e1
        · rw [eqv_emptyP]
          have s9 := sameN (o := .lst []) hl9
          rcases List.eq_nil_or_concat (grp (ns.take i)) with z | ⟨init, ⟨m, c⟩, z⟩
          · rw [z]
            exact hR _ _ ⟨s9, (fun z => nomatch z), fun _ m c hm => by rw [z] at hm; cases hm⟩
          · rw [List.concat_eq_append] at z
            have d9 := e2.up (.of s9)
            rw [z] at d9
            obtain ⟨w1, ra, u, rfl, k1, t1, t2⟩ := d9.split
            · skip
              have okm : Ok m l := okg (m, c) (by rw [z]; simp)
              have z0 : (grp (ns.take i)).isEmpty = false := by rw [z]; simp
              rw [z0]
              refine ⟨.ref F0, rfl, 1, rfl, F0, _, -1, .ref ra, rfl, rfl, .inl (.inl (s9 _ _ e1)), atI_last _ _, ra, _, 0, u, rfl, rfl, t1, rfl, x, rfl, _, _, t2, kn.up (.of s9), shaped_dat okm l20, shaped_dat okn l20, _, rfl, hR _ _ ⟨s9, fun eb => ?_, fun eb m' c' hm => ?_⟩⟩
              · have : m = n := (eqv_dat _ _).mp eb
                exact ⟨init, c, by rw [z, this]⟩
              · rw [z, List.getLast?_append] at hm
                have : m = m' ∧ c = c' := by simpa using hm
                rw [← this.1]
                intro eq
                rw [eqv_yes eq] at eb
                cases eb
    · obtain ⟨ws, y2, y3, rfl, e1, e2, s1⟩ := hp
      rw [hlu, List.take_length] at e2
      have lz : (grp ns).length ≤ 100000 := Nat.le_trans (grp_len ns) hlen
      refine ⟨.ref F0, rfl, F0, rfl, ⟨_, .inl (.inl e1)⟩, fun D nD => ?_⟩
      refine lc_list (xs := ws) (fun i Hd => ∃ vs', Hd D = some (.lst vs') ∧ NdsV K Hd vs' (((grp ns).take i).map mkRun) ∧ Same H' Hd) ⟨[], upd_same, ?_, sameN nD⟩ (fun i Hd _ hp => ?_) (fun i v Hd hv hp => ?_) (fun Hd hp => ?_)
      · rw [List.take_zero]
        exact .nil
      · obtain ⟨_, _, _, e⟩ := hp
        exact .inl (.inl (e _ _ e1))
      · obtain ⟨vs', g1, g2, s2⟩ := hp
        obtain ⟨p, ra, u, hpi, rfl, t1, t2⟩ := (e2.up (.of s2)).get hv
        have tm : ((grp ns).take (i + 1)).map mkRun = ((grp ns).take i).map mkRun ++ [mkRun p] := by
          rw [take_more hpi, List.map_append]
          rfl
        have lv : vs'.length < sizeLine := by
          rw [g2.len, List.length_map]
          exact line5 (small_take lz)
        refine ⟨ra, _, rfl, t1, rfl, u, _, rfl, _, [], rfl, rfl, rfl, ?_⟩
        refine ⟨_, rfl, rfl, _, rfl, ite2 (fun e => ?_) (fun e => ?_)⟩
        · have e0 : (p.2 : Int) = 1 := V.int.inj (of_decide_eq_true e)
          have e3 : p.2 = 1 := by omega
          refine ⟨u, rfl, vs', g1, lv, vs' ++ [u], upd_same, ?_, sameW s2 nD⟩
          have tt : Tups K Hd (upd Hd D (.lst (vs' ++ [u]))) := (But.set (p := D)).tups g1
          rw [tm]
          refine (g2.up tt).app (.one ?_)
          unfold mkRun
          rw [if_pos e3]
          exact t2.up tt
        · have e3 : p.2 ≠ 1 := fun z => e (by rw [z]; rfl)
          refine ⟨u, rfl, _, rfl, (show 3 ≤ sizeLine from by decide), fun t ht => ?_⟩
          have s3 := sameN (o := .tup [.str "run", u, .int (p.2 : Int)]) ht
          refine ⟨vs', s3 _ _ g1, lv, vs' ++ [.ref t], upd_same, ?_, sameW (s2.trans s3) nD⟩
          have tt : Tups K (upd Hd t (.tup [.str "run", u, .int (p.2 : Int)])) (upd (upd Hd t (.tup [.str "run", u, .int (p.2 : Int)])) D (.lst (vs' ++ [.ref t]))) := (But.set (p := D)).tups (s3 _ _ g1)
          rw [tm]
          refine ((g2.up (.of s3)).up tt).app (.one ?_)
          unfold mkRun
          rw [if_neg e3]
          exact .ofRun (tt _ _ (.inl (.inl upd_same))) ((t2.up (.of s3)).up tt)
      · obtain ⟨vs', g1, g2, s2⟩ := hp
        rw [e2.len, List.take_length] at g2
        exact q _ D vs' (s1.trans s2) (by
          cases z : H D with
          | none => rfl
          | some u =>
            rw [s1 _ _ z] at nD
            cases nD) g1 g2
end
/-! ### rows as data -/
section
variable {K : PySem.W.Frag}
def rws (rs : List (List Nd)) : List PyData := rs.map fun r => .tuple (datAll r)
theorem dpAll_of {H : Hp} : ∀ {ds : List PyData} {ws : List V}, ws.length = ds.length → (∀ (i : Nat) v d, ws[i]? = some v → ds[i]? = some d → Dp K H v d) → DpAll K H ws ds
  | [], [], _, _ => .nil
  | [], _ :: _, h, _ => by cases h
  | _ :: _, [], h, _ => by cases h
  | d :: ds, v :: ws, h, k => .cons (k 0 v d rfl rfl) (dpAll_of (by simpa using h) fun i v' d' h1 h2 => k (i + 1) v' d' (by simpa using h1) (by simpa using h2))
noncomputable def rlist (r0 : List Nd) (t : Nat) : List (List Nd) := (List.range t).map fun j => nx j r0
theorem RowsV.dp {H : Hp} {r0 : List Nd} {ws : List V} {t : Nat} (h : RowsV K H r0 ws t) : DpAll K H ws (rws (rlist r0 t)) := by
  refine dpAll_of (by rw [h.1]; unfold rws rlist; simp) fun i v d hv hd => ?_
  obtain ⟨ra, us, rfl, h1, h2⟩ := h.2 i v hv
  unfold rws rlist at hd
  rw [List.map_map, List.getElem?_map] at hd
  obtain ⟨j, hj, rfl⟩ := Option.map_eq_some_iff.mp hd
  have e : j = i := by
    have := List.getElem?_range (show i < t from by have := (List.getElem?_eq_some_iff.mp hj).1; simpa using this)
    rw [this] at hj
    exact (Option.some.inj hj).symm
  subst e
  exact .tup h1 h2
theorem shaped_rows (rs : List (List Nd)) (h : ∀ r ∈ rs, ∃ j, j ≤ 20 ∧ OkAll r j) : SeqAt.shaped (.list (rws rs)) = true := by
  have key : ∀ rs : List (List Nd), (∀ r ∈ rs, ∃ j, j ≤ 20 ∧ OkAll r j) → PyData.canLayAll0 (rws rs) = true ∧ PyData.depthAll (rws rs) ≤ 63 := by
    intro rs
    induction rs with
    | nil => exact fun _ => ⟨rfl, by simp [rws, PyData.depthAll]⟩
    | cons r rs ih =>
      intro h
      obtain ⟨j, hj, ok⟩ := h r List.mem_cons_self
      obtain ⟨i1, i2⟩ := ih fun x hx => h x (List.mem_cons_of_mem _ hx)
      have s := (shaped_all ok hj).2
      have d := depth_datAll r j ok
      unfold SeqAt.shaped at s
      rw [Bool.and_eq_true] at s
      show PyData.canLayAll0 (.tuple (datAll r) :: rws rs) = true ∧ PyData.depthAll (.tuple (datAll r) :: rws rs) ≤ 63
      refine ⟨?_, ?_⟩
      · simp only [PyData.canLayAll0, Bool.and_eq_true]
        exact ⟨s.1, i1⟩
      · simp only [PyData.depthAll, PyData.depth]
        omega
  obtain ⟨k1, k2⟩ := key rs h
  unfold SeqAt.shaped
  rw [Bool.and_eq_true]
  refine ⟨by simpa [PyData.canLay0] using k1, decide_eq_true ?_⟩
  simp only [PyData.depth]
  omega
theorem eqv_rows0 (rs : List (List Nd)) : PyData.eqv (.list (rws rs)) (.list []) = rs.isEmpty := by
  cases rs <;> simp [rws, PyData.eqv, PyData.eqvAll]
end
section
variable {P : Program} {w : World} {K : PySem.W.Frag} {mg : Str → Option Value} {base : Heap}
abbrev nmLR : List Str := ["given", "row", "found", "one", "count", "piece"]
theorem scLRows : FnScope nmLR ["given"] (defScope sLRows) := ⟨rfl, rfl, rfl, by decide +kernel, rfl, by decide +kernel, by decide +kernel⟩
def spLRows (K : PySem.W.Frag) : Sp := fun vs H Q _ => ∃ (a : Addr) (ws : List V) (gs : List (Nd × Nat)), vs = [.ref a] ∧ SqT K H a ws ∧ PrsV K H ws gs ∧ Giv gs ∧ gs.length ≤ 300 ∧
  ∀ H' p us t, Same H H' → H' p = some (.lst us) → RowsV K H' (gs.map mkRun) us t → Top (gs.map mkRun) t → Q (.ref p) H'
theorem rowW_of {H : Hp} {ra : Addr} {us : List V} {r0 : List Nd} {j : Nat} (lv : Lv r0 j) (hT : H ra = some (.lst us)) (hn : NdsV K H us (nx j r0)) (h2 : 2 ≤ (nx j r0).length) : RowW K 16 H ra (nx j r0) := by
  have s := lv.small
  have s7 := lv.two h2
  refine ⟨us, j, hT, hn, lv.1, lv.2.1, wideL j (by omega), fun n hn => ?_, h2, by omega⟩
  have := ht_le n j (lv.1.mem n hn)
  split at this <;> omega
theorem ok_lrows {f g1 g2 : Addr} {fd e1 e2 : FuncData} (F : Fun K "_law_rows" "_law_rows" sLRows f fd) (B : FnOk P w K mg base CX0 20 g1 e1 ["row"] (spLPieces K 16)) (B' : Fun K "_law_pieces" "_law_pieces" sLPieces g1 e1) (gB : mg "_law_pieces" = some (.ref g1)) (bB : Binds K e1 ["row"] [])
    (M' : Fun K "_law_joined" "_law_joined" sJoined g2 e2) (gM : mg "_law_joined" = some (.ref g2)) (bM : Binds K e2 ["nodes"] []) (ml : mg "len" = none) (mt : mg "tuple" = none) : FnOk P w K mg base CX0 21 f fd ["given"] (spLRows K) := by
  have M : FnOk P w K mg base CX0 1 g2 e2 ["nodes"] (spJoined K) := ok_joined M'
  refine F.ok scLRows (fun vs H Q E h => ?_) (fun cdv A outer s H vs Q E hr h => ?_)
  · obtain ⟨a, ws, gs, rfl, _⟩ := h
    rfl
  · obtain ⟨a, ws, gs, rfl, hT, hP, giv, l100, q⟩ := h
    have r1 := hr.mono (j := 1) (by omega)
    refine ⟨_, pss_cons (ps_par (i := 1) (j := 2) (by rfl) scLRows.nd rfl rfl (by decide) rfl rfl (pa_cons
          (pe_lc (own := [("one", 3), ("count", 4)]) (g := gTup K 2 (gCons (gName 3) (gCons (gName 4) gNil))) (tt := tYes) rfl scLRows.nd (pi_tup (pv 0)) (blkOk_by (N := nmLR) (sc := defScope sLRows) (by decide +kernel))
            (fun _ _ _ _ _ => pg_tup rfl (pgs_cons (pg_name (i := 3) scLRows.nd rfl (Or.inl rfl) (hf := Or.inr rfl)) (pgs_cons (pg_name (i := 4) scLRows.nd rfl (Or.inl rfl) (hf := Or.inr rfl)) pgs_nil))) (fun _ _ _ _ _ => pts_nil)
            (fun _ _ _ _ _ => pe_ifExp (pt_cmpR op_eq (pv 4) pe_int (nomark _)) (pv 3) (pe_tup (pa_cons pe_str (pa_cons (pv 3) (pa_cons (pv 4) pa_nil))))))
          (pa_cons (pe_lst pa_nil) pa_nil)) (by rfl))
      (pss_cons (ps_while PassesOwn.never (pt_cmpR (op_neD hr.units) (pv 1) (pe_lst pa_nil) (nomark _))
        (pss_cons (ps_expr (pe_bm PySem.F.plainAttrs_list PySem.F.slot_list_append PySem.F.type_list_append mt_append (pv 2) (pa_cons (pe_callTy call_tuple_of (by rfl) mt PyProof.Rows.boot_tuple (pa_cons (pv 1) pa_nil)) pa_nil)))
        (pss_one (ps_set (i := 1) scLRows.nd rfl (.inl rfl) (pe_ifExp (pt_cmpR op_gt (pe_callB call_len_seq (by rfl) ml PySem.boot_len (pa_cons (pv 1) pa_nil)) pe_int (nomark _))
          (pe_call M r1 (by rfl) gM M'.kp bM .nil pass0 (pa_cons
            (pe_lc (own := [("piece", 5)]) (g := gName 5) (tt := tYes) rfl scLRows.nd (pi_list (pe_call B hr (by rfl) gB B'.kp bB .nil pass0 (pa_cons (pv 1) pa_nil))) (blkOk_by (N := nmLR) (sc := defScope sLRows) (by decide +kernel))
              (fun _ _ _ _ _ => pg_name (i := 5) scLRows.nd rfl (Or.inl rfl)) (fun _ _ _ _ _ => pts_nil) (fun _ _ _ _ _ => pe_tup (pa_cons pe_str (pa_cons (pv 5) pa_nil)))) pa_nil))
          (pe_lst pa_nil))))))
      (pss_one (ps_ret (pv 2)))), ?_⟩
    have hlw := PrsV.len hP
    refine ⟨.ref a, rfl, a, rfl, ⟨ws, hT⟩, fun D nD => ?_⟩
    refine lc_tup (xs := ws) (fun i H' => ∃ vs', H' D = some (.lst vs') ∧ NdsV K H' vs' ((gs.take i).map mkRun) ∧ Same H H') ⟨[], upd_same, .nil, sameN nD⟩ (fun i H' _ hp => ?_) (fun i u H' hu hp => ?_) (fun H1 hp => ?_)
    · obtain ⟨_, _, _, s1⟩ := hp
      exact sameT s1 hT
    · obtain ⟨vs', gD, dD, s1⟩ := hp
      obtain ⟨pr, ra, v, hpi, rfl, t1, t2⟩ := (PrsV.up (.of s1) hP).get hu
      have hil := (List.getElem?_eq_some_iff.mp hpi).1
      have lv : vs'.length < sizeLine := by
        rw [dD.len, List.length_map]
        exact line5 (small_take (by omega))
      have tm : ((gs.take (i + 1)).map mkRun) = ((gs.take i).map mkRun) ++ [mkRun pr] := by
        rw [take_more hpi, List.map_append]
        rfl
      refine ⟨ra, _, rfl, t1, rfl, v, _, rfl, _, [], rfl, rfl, rfl, ?_⟩
      refine ⟨_, rfl, rfl, _, rfl, ite2 (fun e => ?_) (fun e => ?_)⟩
      · have e0 : (pr.2 : Int) = 1 := V.int.inj (of_decide_eq_true e)
        have e3 : pr.2 = 1 := by omega
        refine ⟨v, rfl, vs', gD, lv, vs' ++ [v], upd_same, ?_, sameW s1 nD⟩
        have tt : Tups K H' (upd H' D (.lst (vs' ++ [v]))) := (But.set (p := D)).tups gD
        rw [tm]
        refine (dD.up tt).app (.one ?_)
        unfold mkRun
        rw [if_pos e3]
        exact t2.up tt
      · have e3 : pr.2 ≠ 1 := fun z => e (by rw [z]; rfl)
        refine ⟨v, rfl, _, rfl, (show 3 ≤ sizeLine from by decide), fun t nt => ?_⟩
        have s3 := sameN (o := .tup [.str "run", v, .int (pr.2 : Int)]) nt
        refine ⟨vs', s3 _ _ gD, lv, vs' ++ [.ref t], upd_same, ?_, sameW (s1.trans s3) nD⟩
        have tt : Tups K (upd H' t (.tup [.str "run", v, .int (pr.2 : Int)])) (upd (upd H' t (.tup [.str "run", v, .int (pr.2 : Int)])) D (.lst (vs' ++ [.ref t]))) := (But.set (p := D)).tups (s3 _ _ gD)
        rw [tm]
        refine ((dD.up (.of s3)).up tt).app (.one ?_)
        unfold mkRun
        rw [if_neg e3]
        exact .ofRun (tt _ _ (.inl (.inl upd_same))) ((t2.up (.of s3)).up tt)
    obtain ⟨vs', gD, dD, s1⟩ := hp
    have full : gs.take ws.length = gs := List.take_of_length_le (by rw [hlw]; exact Nat.le_refl _)
    rw [full] at dD
    have lv0 : gs.map mkRun ≠ [] → Lv (gs.map mkRun) 0 := fun z => giv_row0 giv (fun y => z (by rw [y]; rfl)) l100
    generalize gs.map mkRun = r0 at q dD lv0
    refine ⟨(show 0 ≤ sizeLine from by decide), fun L nL => ⟨_, _, rfl, ?_⟩⟩
    have sL := sameN (o := .lst []) nL
    have nLH : H L = none := freeS s1 nL
    refine ⟨fun m' σ H' => ∃ ra us rv, σ = [some (.ref a), some (.ref ra), some (.ref L), none, none, none] ∧ H' ra = some (.lst us) ∧ ra ≠ L ∧ H' L = some (.lst rv) ∧ Same H H' ∧
        ((∃ j, m' = (nx j r0).length + 1 ∧ r0 ≠ [] ∧ (∀ i, i < j → 1 < (nx i r0).length) ∧ Lv r0 j ∧ NdsV K H' us (nx j r0) ∧ RowsV K H' r0 rv j) ∨ (∃ t, m' = 0 ∧ us = [] ∧ RowsV K H' r0 rv t ∧ Top r0 t)), ?_, ?_⟩
    · have ne : D ≠ L := ne_of_none gD nL
      by_cases z : r0 = []
      · have e0 : vs' = [] := by
          rw [z] at dD
          exact dD.inv0
        exact ⟨0, D, vs', [], rfl, sL _ _ gD, ne, upd_same, s1.trans sL, .inr ⟨0, rfl, e0, .nil, .inl ⟨z, rfl⟩⟩⟩
      · exact ⟨_, D, vs', [], rfl, sL _ _ gD, ne, upd_same, s1.trans sL, .inl ⟨0, rfl, z, (fun i hi => absurd hi (Nat.not_lt_zero _)), lv0 z, dD.up (.of sL), .nil⟩⟩
    rintro m' σ H2 ⟨ra, us, rv, rfl, k1, kne, k3, k5, hc⟩
    rcases hc with ⟨j, rfl, rne, hj, lv, k2, k4⟩ | ⟨t, rfl, rfl, k4, tp⟩
    · have sm := lv.small
      have lus := k2.len
      refine ⟨.ref ra, rfl, (show 0 ≤ sizeLine from by decide), fun l9 hl9 => ⟨_, _, .lst (.inl (.inl (sameN hl9 _ _ k1))) (k2.up (.of (sameN hl9))), .lst (.inl (.inl upd_same)) .nil, (shaped_all lv.1 (by omega)).1, shaped_nil, _, rfl, ?_⟩⟩
      have emp : (nx j r0).isEmpty = false := by
        cases hn : nx j r0 with
        | nil =>
          have := lv.2.2.1
          rw [hn] at this
          cases this
        | cons x r => rfl
      rw [eqv_emptyN, emp]
      have s9 := sameN (o := .lst []) hl9
      have k1' := s9 _ _ k1
      have k3' := s9 _ _ k3
      have k2' := k2.up (.of (K := K) s9)
      have k4' := k4.up (.of (K := K) s9)
      have k5' := k5.trans s9
      generalize upd H2 l9 (.lst []) = H3 at k1' k3' k2' k4' k5' ⊢
      refine ⟨fun σ' H' => ∃ ra us rv, σ' = [some (.ref a), some (.ref ra), some (.ref L), none, none, none] ∧ H' ra = some (.lst us) ∧ ra ≠ L ∧ H' L = some (.lst rv) ∧ Same H H' ∧
        ((2 ≤ (nx j r0).length ∧ NdsV K H' us (nx (j + 1) r0) ∧ RowsV K H' r0 rv (j + 1)) ∨ ((nx j r0).length ≤ 1 ∧ us = [] ∧ RowsV K H' r0 rv (j + 1))), fun σ' H' hN => ?_, ?_⟩
      · obtain ⟨ra', us', rv', i1, i2, i3, i4, i5, hc⟩ := hN
        rcases hc with ⟨h2, i6, i7⟩ | ⟨h1, i6, i7⟩
        · have nxt := lv.next h2
          refine ⟨(nx (j + 1) r0).length + 1, by omega, ra', us', rv', i1, i2, i3, i4, i5, .inl ⟨j + 1, rfl, rne, fun i hi => ?_, nxt.1, i6, i7⟩⟩
          rcases Nat.lt_or_ge i j with z | z
          · exact hj i z
          · have : i = j := by omega
            rw [this]
            exact h2
        · exact ⟨0, by omega, ra', us', rv', i1, i2, i3, i4, i5, .inr ⟨j + 1, rfl, i6, i7, .inr ⟨rne, j, rfl, h1, hj⟩⟩⟩
      refine ⟨.ref L, rfl, .inl ⟨rfl, _, .inl (.inl k3')⟩, .ref ra, rfl, ra, us, rfl, .inl ⟨.inl (.inl k1'), fun t nt => ?_⟩⟩
      have st := sameN (o := .tup us) nt
      have k3t := st _ _ k3'
      have t9 : Tups K (upd H3 t (.tup us)) (upd (upd H3 t (.tup us)) L (.lst (rv ++ [.ref t]))) := (But.set (p := L)).tups k3t
      refine ⟨L, _, _, rfl, rfl, k3t, line5 (by rw [k4'.1]; omega), ?_⟩
      have nLt : t ≠ L := (ne_of_none k3' nt).symm
      have rows' : RowsV K (upd (upd H3 t (.tup us)) L (.lst (rv ++ [.ref t]))) r0 (rv ++ [.ref t]) (j + 1) := ((k4'.up (.of st)).up t9).app (t9 _ _ (.inl (.inl upd_same))) ((k2'.up (.of st)).up t9)
      have gra : (upd (upd H3 t (.tup us)) L (.lst (rv ++ [.ref t]))) ra = some (.lst us) := by
        rw [upd_ne kne]
        exact st _ _ k1'
      have gL : (upd (upd H3 t (.tup us)) L (.lst (rv ++ [.ref t]))) L = some (.lst (rv ++ [.ref t])) := upd_same
      have s4 : Same H (upd (upd H3 t (.tup us)) L (.lst (rv ++ [.ref t]))) := sameW (k5'.trans st) nLH
      have k24 : NdsV K (upd (upd H3 t (.tup us)) L (.lst (rv ++ [.ref t]))) us (nx j r0) := (k2'.up (.of st)).up t9
      generalize upd (upd H3 t (.tup us)) L (.lst (rv ++ [.ref t])) = H4 at rows' gra gL s4 k24 ⊢
      generalize rv ++ [V.ref t] = rv at rows' gL
      refine ⟨.ref ra, rfl, ra, us, rfl, .inl (.inl (.inl gra)), _, 1, rfl, rfl, _, rfl, ite2 (fun e => ?_) (fun e => ?_)⟩
      · have h2 : 2 ≤ (nx j r0).length := by
          have := of_decide_eq_true e
          omega
        have lp := pieces_fst_len h2
        refine ⟨.ref ra, rfl, ra, nx j r0, rfl, rowW_of lv gra k24 h2, fun H6 pp ps s6 hpp pV => ⟨pp, rfl, ⟨ps, .inl (.inl hpp)⟩, fun D2 nD2 => ?_⟩⟩
        refine lc_list (xs := ps) (fun i H' => ∃ vs', H' D2 = some (.lst vs') ∧ NdsV K H' vs' (((pieces (nx j r0)).take i).map fun z => Nd.blk (pce (nx j r0) z)) ∧ Same H6 H') ⟨[], upd_same, .nil, sameN nD2⟩ (fun i H' _ hp => ?_) (fun i u H' hu hp => ?_) (fun H' hp => ?_)
        · obtain ⟨_, _, _, s7⟩ := hp
          exact .inl (.inl (s7 _ _ hpp))
        · obtain ⟨vs', gD, dD, s7⟩ := hp
          obtain ⟨z, t6, us6, hz, rfl, ht6, hn6⟩ := pV.2 i u hu
          have hil := (List.getElem?_eq_some_iff.mp hz).1
          have tk : (pieces (nx j r0)).take (i + 1) = (pieces (nx j r0)).take i ++ [z] := take_more hz
          refine ⟨rfl, _, rfl, (show 2 ≤ sizeLine from by decide), fun t8 n8 => ?_⟩
          have s8 := sameN (o := .tup [.str "block", .ref t6]) n8
          have s78 := s7.trans s8
          have nb : NdV K (upd H' t8 (.tup [.str "block", .ref t6])) (.ref t8) (.blk (pce (nx j r0) z)) := .ofBlk (.inl (.inl upd_same)) (sameT s78 ht6) (hn6.up (.of s78))
          have gD8 := s8 _ _ gD
          refine ⟨vs', gD8, ?_, vs' ++ [.ref t8], upd_same, ?_, sameW s78 nD2⟩
          · rw [dD.len, List.length_map]
            exact line5 (small_take (by omega))
          · rw [tk, List.map_append]
            have t9 : Tups K (upd H' t8 (.tup [.str "block", .ref t6])) (upd (upd H' t8 (.tup [.str "block", .ref t6])) D2 (.lst (vs' ++ [.ref t8]))) := (But.set (p := D2)).tups gD8
            exact ((dD.up (.of (K := K) s8)).up t9).app (.one (nb.up t9))
        · obtain ⟨vs', gD, dD, s7⟩ := hp
          have full : (pieces (nx j r0)).take ps.length = pieces (nx j r0) := List.take_of_length_le (by rw [pV.1]; exact Nat.le_refl _)
          rw [full] at dD
          refine ⟨D2, vs', _, j + 1, rfl, .inl (.inl gD), dD, ok_pieces lv.1 lv.2.1 h2, by omega, by rw [List.length_map]; omega, fun H8 pr rs s8 npr hr8 kr => ?_⟩
          have s68 := s6.trans (s7.trans s8)
          exact ⟨pr, rs, rv, rfl, hr8, (ne_of_none ((s6.trans s7) _ _ gL) npr).symm, s68 _ _ gL, s4.trans s68, .inl ⟨h2, kr, rows'.up (.of s68)⟩⟩
      · have h1 : (nx j r0).length ≤ 1 := by
          have : ¬ (1 : Int) < ((us.length : Nat) : Int) := fun z => e (decide_eq_true z)
          omega
        refine ⟨(show 0 ≤ sizeLine from by decide), fun l7 n7 => ⟨l7, [], rv, rfl, upd_same, (ne_of_none gL n7).symm, sameN n7 _ _ gL, s4.trans (sameN n7), .inr ⟨h1, rfl, rows'.up (.of (sameN n7))⟩⟩⟩
    · refine ⟨.ref ra, rfl, (show 0 ≤ sizeLine from by decide), fun l9 hl9 => ⟨_, _, .lst (.inl (.inl (sameN hl9 _ _ k1))) (NdsV.nil (K := K)), .lst (.inl (.inl upd_same)) .nil, shaped_nil, shaped_nil, _, rfl, ?_⟩⟩
      rw [show PyData.eqv (.list (datAll [])) (.list []) = true by rw [eqv_emptyN]; rfl]
      exact ⟨_, rfl, q _ L rv t (k5.trans (sameN hl9)) (sameN hl9 _ _ k3) (k4.up (.of (sameN hl9))) tp⟩
end
/-! ### the law's own trees -/
section
variable {P : Program} {w : World} {K : PySem.W.Frag} {mg : Str → Option Value} {base : Heap}
theorem base_lrows (X : Facts K mg) : FnOk P w K mg base CX0 21 X.ul_rows X.vl_rows ["given"] (spLRows K) := by
  have GZ : FnOk P w K mg base CX0 18 X.ul_first X.vl_first ["row"] (spLFirst K 16) := ok_lfirst X.fl_first X.fl_text X.gl_text X.bl_text X.isinstance X.int X.str 16
  have GL1 : FnOk P w K mg base CX0 1 X.ul_round X.vl_round ["some"] (spRound K) := ok_round X.fl_round X.len X.range
  have GL2 := ok_lmarks (m := 16) X.fl_marks GZ X.fl_first X.gl_first X.bl_first GL1 X.fl_round X.gl_round X.bl_round X.range
  have GL3 : FnOk P w K mg base CX0 20 X.ul_pieces X.vl_pieces ["row"] (spLPieces K 16) := ok_lpieces (m := 16) X.fl_pieces GL2 X.fl_marks X.gl_marks X.bl_marks X.range X.len X.tuple X.zip X.max
  exact ok_lrows X.fl_rows GL3 X.fl_pieces X.gl_pieces X.bl_pieces X.fl_joined X.gl_joined X.bl_joined X.len X.tuple
theorem scLTree : FnScope ["given", "rows"] ["given"] (defScope sLTree) := ⟨rfl, rfl, rfl, by decide +kernel, rfl, by decide +kernel, by decide +kernel⟩
theorem ok_ltree (X : Facts K mg) : FnOk P w K mg base CX0 22 X.ul_tree X.vl_tree ["given"] (spTreeX K) := by
  have G := base_lrows (P := P) (w := w) (base := base) X
  refine X.fl_tree.ok scLTree (fun vs H Q E h => ?_) (fun cdv A outer s H vs Q E hr h => ?_)
  · obtain ⟨a, ws, gs, rfl, _⟩ := h
    rfl
  · obtain ⟨a, ws, gs, rfl, hT, hP, giv, l300, q⟩ := h
    refine ⟨_, pss_cons (ps_set (i := 1) scLTree.nd rfl (.inl rfl) (pe_call G hr (by rfl) X.gl_rows X.fl_rows.kp X.bl_rows .nil pass0 (pa_cons (pv 0) pa_nil)))
      (pss_one (ps_ret (pe_ifExp (pt_cmpR (op_neD hr.units) (pv 1) (pe_lst pa_nil) (nomark _)) (pe_ix ix_tup (pe_ix ix_list (pv 1) (pe_un un_neg pe_int) (fun _ _ => rfl)) pe_int (fun _ _ => rfl)) pe_non))), ?_⟩
    refine ⟨.ref a, rfl, a, ws, gs, rfl, hT, hP, giv, l300, fun H1 p us t s1 hp hR top => ?_⟩
    have lus : us.length = t := hR.1
    have okr : ∀ r ∈ rlist (gs.map mkRun) t, ∃ j, j ≤ 20 ∧ OkAll r j := fun r hr => by
      rcases top with ⟨_, rfl⟩ | ⟨rne, s', rfl, h1, hj⟩
      · unfold rlist at hr
        simp at hr
      · have lv0 := giv_row0 giv (fun z => rne (by rw [z]; rfl)) l300
        unfold rlist at hr
        obtain ⟨j, hj', rfl⟩ := List.mem_map.mp hr
        have hj' : j < s' + 1 := List.mem_range.mp hj'
        have lv := lv_all lv0 j fun i hi => hj i (by omega)
        exact ⟨j, by have := lv.small.1; omega, lv.1⟩
    refine ⟨.ref p, rfl, (show 0 ≤ sizeLine from by decide), fun e ne => ⟨_, _, .lst (.inl (.inl (sameN ne _ _ hp))) ((hR.up (.of (sameN ne))).dp), .lst (.inl (.inl upd_same)) .nil, shaped_rows _ okr, shaped_nil, _, rfl, ?_⟩⟩
    rw [eqv_rows0]
    have s2 := s1.trans (sameN (o := .lst []) ne)
    have hp2 := sameN (o := .lst []) ne _ _ hp
    have hR2 := hR.up (.of (K := K) (sameN (o := .lst []) ne))
    rcases top with ⟨z, rfl⟩ | ⟨rne, s', rfl, h1, hj⟩
    · have : (rlist (gs.map mkRun) 0).isEmpty = true := rfl
      rw [this]
      exact iteF (q _ _ s2 (.inl ⟨by simpa using z, rfl⟩))
    have : (rlist (gs.map mkRun) (s' + 1)).isEmpty = false := by
      unfold rlist
      rw [List.range_succ]
      simp
    rw [this]
    have gne : gs ≠ [] := fun z => rne (by rw [z]; rfl)
    have lv0 := giv_row0 giv gne l300
    have lv := lv_all lv0 s' hj
    obtain ⟨n, en⟩ := one_node lv h1
    have okn : Ok n s' := lv.1.mem n (by rw [en]; exact List.mem_cons_self)
    have pn : prs n = gs := by
      have := prss_nx (gs := gs) (fun p hp => by
        obtain ⟨⟨k, e, _⟩, _⟩ := giv.1 p hp
        exact ⟨k, e⟩) s' hj
      rw [en, prss, prss, List.append_nil] at this
      exact this
    obtain ⟨v, hv⟩ := get_of (l := us) (i := s') (by omega)
    obtain ⟨ra, xs, rfl, hra, hx⟩ := hR2.2 s' v hv
    rw [en] at hx
    obtain ⟨u, q0, rfl, hu, _⟩ := hx.inv
    refine iteT ⟨.ref p, rfl, 1, rfl, p, us, -1, .ref ra, rfl, rfl, .inl (.inl hp2), ?_, ra, _, 0, u, rfl, rfl, hra, atI_nat (j := 0) rfl, q _ u s2 (.inr ⟨gne, n, s', hu, okn, lv.small.1, ?_, pn, en, .inr ⟨rne, s', rfl, h1, hj⟩⟩)⟩
    · rcases List.eq_nil_or_concat us with e1 | ⟨init, y, e1⟩
      · rw [e1] at lus
        cases lus
      · rw [e1, List.concat_eq_append] at hv lus ⊢
        rw [List.length_append] at lus
        have li : init.length = s' := by simpa using lus
        rw [List.getElem?_append_right (by omega), li, Nat.sub_self] at hv
        rw [Option.some.inj hv]
        exact atI_last _ _
    · have := ht_le n s' okn
      have := lv.small.1
      split at * <;> omega
end
/-! ### trees shown -/
section
variable {K : PySem.W.Frag}
theorem wide_le : ∀ j : Nat, j ≤ 8 → wide j ≤ 2000000
  | 0, _ => by decide
  | 1, _ => by decide
  | 2, _ => by decide
  | 3, _ => by decide
  | 4, _ => by decide
  | 5, _ => by decide
  | 6, _ => by decide
  | 7, _ => by decide
  | 8, _ => by decide
  | j + 9, h => by omega
theorem rep_tree {H : Hp} {v : V} {n : Nd} {l : Nat} {Q : VK} (hn : NdV K H v n) (ok : Ok n l) (h8 : l ≤ 8) (q : Q (.str (PyData.shown (dat n))) H) : rRepV K [v] H Q :=
  .inl (rep_node hn ok (by omega) (by have w := wide_le l h8; rw [sizeLine_eq]; omega) q)
end
/-! ### the text of a tree depends on its runs alone -/
section
variable {K : PySem.W.Frag}
theorem rep_treeX (gs : List (Nd × Nat)) : ∃ S : Str, ∀ (H : Hp) (u : V) (Q : VK), TreeX K H u gs → Q (.str S) H → rRepV K [u] H Q := by
  by_cases z : gs = []
  · refine ⟨"None", fun H u Q hU q => ?_⟩
    rcases hU with ⟨_, rfl⟩ | ⟨z', _⟩
    · exact .inr ⟨rfl, q⟩
    · exact absurd z z'
  · by_cases h : ∃ n l, Ok n l ∧ l ≤ 8 ∧ nx l (gs.map mkRun) = [n] ∧ Top (gs.map mkRun) (l + 1)
    · obtain ⟨n, l, okn, l8, en, top⟩ := h
      refine ⟨PyData.shown (dat n), fun H u Q hU q => ?_⟩
      rcases hU with ⟨z', _⟩ | ⟨_, n2, l2, hn2, ok2, l28, _, _, en2, top2⟩
      · exact absurd z' z
      · have := top.one top2
        have el : l2 = l := by omega
        subst el
        rw [en] at en2
        have e2 : n = n2 := by simpa using en2
        subst e2
        exact rep_tree hn2 ok2 l28 q
    · refine ⟨"", fun H u Q hU q => ?_⟩
      rcases hU with ⟨z', _⟩ | ⟨_, n2, l2, hn2, ok2, l28, _, _, en2, top2⟩
      · exact absurd z' z
      · exact absurd ⟨n2, l2, ok2, l28, en2, top2⟩ h
/-- repr(a) != repr(b), both trees of one sequence -/
theorem ne_treeX {gs : List (Nd × Nat)} {ta tb : TE} {σ : L2.St} {H : Hp} {Q : Bool → Hp → Prop} (ha : ∀ R : VK, (∀ v H', TreeX K H' v gs → Same H H' → R v H') → ta σ H R)
    (hb : ∀ H1, Same H H1 → ∀ R : VK, (∀ v H', TreeX K H' v gs → Same H1 H' → R v H') → tb σ H1 R) (q : ∀ H', Same H H' → Q false H') : tTest (tOp rNe (tCB (rRepV K) (tCons ta tNil)) (tCB (rRepV K) (tCons tb tNil))) σ H Q := by
  obtain ⟨S, rep⟩ := rep_treeX (K := K) gs
  refine cb1_any (fun v H' => TreeX K H' v gs ∧ Same H H') (fun v H1 h1 => ?_) (fun R hR => ha R fun v H' h s => hR v H' ⟨h, s⟩)
  refine rep _ _ _ h1.1 ?_
  refine cb1_any (fun v H' => TreeX K H' v gs ∧ Same H1 H') (fun v H2 h2 => ?_) (fun R hR => hb H1 h1.2 R fun v H' h s => hR v H' ⟨h, s⟩)
  refine rep _ _ _ h2.1 ⟨rfl, _, rfl, ?_⟩
  rw [dec_tt]
  exact q _ (h1.2.trans h2.2)
/-- joining two of them at a fork -/
theorem ifs_no {T : TT} {t u : TS} {D : Ends} {σ : L2.St} {H : Hp} (S : Hp → Prop) (key : ∀ H', S H' → u D σ H') (h : ∀ R : Bool → Hp → Prop, (∀ H', S H' → R false H') → T σ H R) : tIfS T t u D σ H :=
  ifs_any (fun b H' => b = false ∧ S H') (fun b H' hS => by obtain ⟨rfl, hS⟩ := hS; exact iteF (key H' hS)) (fun R hR => h R fun H' hS => hR _ _ ⟨rfl, hS⟩)
end
end C64

set_option Elab.async false
set_option linter.all false
set_option maxRecDepth 100000
set_option maxHeartbeats 4000000
namespace Loc
open PySem PySem.Spec PyProof.Rows L2
open AutoSeq1 (wpAny_loadPart')
/-! ### enumerate(t), t a tuple -/
theorem meets_enum_newT (l : Addr) (items : Array Value) (n : Nat) (dct : Option Addr) (sl : Array (Option Value)) :
    Meets (Builtin.«enumerate.__new__» ⟨[.type "enumerate", .ref l], []⟩) (fun _ R s => s.heap.get? l = some { cls := .type "tuple", dict := dct, data := .seq items n, slots := sl } ∧
      R (.ok (.ret (.ref (s.heap.push { cls := .type "tuple_iterator", data := .fields #[.ref l, .int 0 0] }).objs.size)))
        { s with heap := (s.heap.push { cls := .type "tuple_iterator", data := .fields #[.ref l, .int 0 0] }).push { cls := .type "enumerate", data := .fields #[.none, .bool false, .ref s.heap.objs.size, rawInt 0, .none, .none] } }) :=
  .of_wp fun prog w A R s h => by
    obtain ⟨hp, g, d, tk, os⟩ := s
    obtain ⟨hl, h⟩ := h
    have hsub := sub_enumerate
    have hL : Heap.IsTuple (Shared.heap ⟨hp, g, d, tk, os⟩) l items := ⟨_, hl, rfl, n, rfl⟩
    wp_walk using wpAny_loadPart' hl
    refine wpAny_stack_any fun st => wpAny_pure ?_
    split
    · rename_i c _ _ _ _ _
      cases (c == Value.type "enumerate")
      · wp_walk using wpAny_loadPart' hl, wpAny_pyIter_tuple hL
        exact ⟨_, rfl, h⟩
      · wp_walk using wpAny_loadPart' hl, wpAny_pyIter_tuple hL
        exact ⟨_, rfl, h⟩
    · wp_walk using wpAny_loadPart' hl, wpAny_pyIter_tuple hL
      exact ⟨_, rfl, h⟩
section
variable {prog : Program} {w : World} {A : Around} {E : Value → Shared → Prop} {s : Shared}
theorem call_enum_tup {l : Addr} {items : Array Value} {Q : Value → Shared → Prop} (hL : s.heap.IsTuple l items)
    (h : ∀ h', IsEnum h' (s.heap.objs.size + 1) s.heap.objs.size 0 .none → h'.IsTupleIter s.heap.objs.size l 0 → h'.objs.size = s.heap.objs.size + 2 →
      (∀ b o, s.heap.get? b = some o → h'.get? b = some o) → Q (.ref (s.heap.objs.size + 1)) { s with heap := h' }) :
    wpAny (model prog w) A (call (.type "enumerate") [.ref l]) Q E s := by
  obtain ⟨⟨c, dct, dt, sl⟩, hl, hc, n, hd⟩ := hL
  replace hc : c = .type "tuple" := hc
  replace hd : dt = .seq items n := hd
  subst hc hd
  refine callType_new PySem.F.called_enumerate (by decide) (PySem.F.typeCall_enumerate_1 _) (PySem.F.newCall_enumerate_1 _) (fun obj => PySem.F.args_object_init_2 obj _) PySem.F.entry_enumerate_new
    (meets_enum_newT l items n dct sl) ⟨hl, ?_⟩
  have hz : (s.heap.push { cls := .type "tuple_iterator", data := .fields #[.ref l, .int 0 0] }).objs.size = s.heap.objs.size + 1 := Heap.size_push ..
  show _ ∧ _
  rw [hz]
  have he : IsEnum ((s.heap.push { cls := .type "tuple_iterator", data := .fields #[.ref l, .int 0 0] }).push
      { cls := .type "enumerate", data := .fields #[.none, .bool false, .ref s.heap.objs.size, rawInt 0, .none, .none] }) (s.heap.objs.size + 1) s.heap.objs.size 0 .none := by
    have := Heap.get?_push_size (s.heap.push { cls := .type "tuple_iterator", data := .fields #[.ref l, .int 0 0] })
      (o := { cls := .type "enumerate", data := .fields #[.none, .bool false, .ref s.heap.objs.size, rawInt 0, .none, .none] }) rfl
    rw [hz] at this; exact this
  refine ⟨⟨_, he, rfl⟩, h _ he ⟨_, Heap.get?_push_of_some _ (Heap.get?_push_size _ rfl), rfl, rfl⟩ (by rw [Heap.size_push, hz]) fun b o x => Heap.get?_push_of_some _ (Heap.get?_push_of_some _ x)⟩
end
theorem enumT_end {prog : Program} {w : World} {A : Around} {E : Value → Shared → Prop} {s : Shared} {e it l : Addr} {i : Nat} {items : Array Value} {old : Value} {Q : Option Value → Shared → Prop} (hh : A.handled = none)
    (he : IsEnum s.heap e it i old) (hit : s.heap.IsTupleIter it l i) (hl : s.heap.IsTuple l items) (hx : items[i]? = none)
    (hQ : ∀ h', Heap.ExtBut it s.heap h' → Q none { s with heap := h' }) : wpAny (model prog w) A (pyNext (.ref e)) Q E s := by
  have hT : s.TypeIs (.ref e) "enumerate" := ⟨_, he, rfl⟩
  unfold pyNext
  refine wpAny_bind (wpAny_attempt (wpAny_callSpecial?_slot (name := Str.ofString "__next__") hT PySem.F.slot_enumerate_next
    (wpAny_call_entry PySem.F.slot_enumerate_next hT PySem.F.entry_enumerate_next ?_ (PySem.F.args_enumerate_next_1 _))))
  show wpAny _ _ (field (.ref e) 2 >>= _) _ _ _
  refine wpAny_bind (wpAny_field he rfl (x := .ref it) rfl ?_)
  refine wpAny_bind (wpAny_nextOf_tuple_end hh hit hl hx fun h' x he' hx' => ?_)
  obtain ⟨o, ho, hc⟩ := hx'
  refine wpAny_bind (wpAny_isInstance (T := "StopIteration") (b := true) ⟨o, ho, hc⟩ isSubtype_stop ?_)
  exact wpAny_pure (hQ _ he')
/-- the tuple at a, each item in a new pair -/
def IteT (K : PySem.W.Frag) (a : Addr) : It :=
  ⟨fun i H => ∃ (xs : List V) (x : V), SqT K H a xs ∧ xs[i]? = some x, fun i H v H' => ∃ T x, v = .ref T ∧ H T = none ∧ H' = upd H T (.tup [.int (i : Nat), x]) ∧ ∀ xs, SqT K H a xs → xs[i]? = some x, fun i H => ∃ xs : List V, SqT K H a xs ∧ xs.length ≤ i⟩
theorem turn_enumT {P : Program} {w : World} {K : PySem.W.Frag} {elts : List Expr} {kk : Nat} {tpos : Pos} (a e it : Addr) :
    Turn P w K (.Tuple elts kk tpos) (IteT K a) [e, it] e (fun i h => (∃ old, IsEnum h e it ((i : Nat) : Int) old) ∧ h.IsTupleIter it a i ∧ e ≠ it ∧ a ≠ it ∧ a ≠ e) where
  mem := by simp
  obj := fun i h st b hb => by
    obtain ⟨⟨old, he⟩, ⟨o, ho, hc, hd⟩, _⟩ := st
    have e' : b = e ∨ b = it := by simpa using hb
    rcases e' with z | z
    · rw [z]; exact ⟨_, he, fun v q => nomatch q⟩
    · rw [z]; exact ⟨o, ho, fun v q => by rw [hd] at q; cases q⟩
  keep := fun i h h' st k => let ⟨⟨old, he⟩, hi, hne⟩ := st; ⟨⟨old, k e (by simp) _ he⟩, hi.at fun o q => k it (by simp) o q, hne⟩
  item := by
    intro X hP hw hK hc i pins s σ H E I hf st hg
    subst hP hw hK
    obtain ⟨⟨old, he⟩, hit, hne, hai, hae⟩ := st
    obtain ⟨xs, x, hq, hx⟩ := hg
    obtain ⟨its, rv, p, hz⟩ := I.tuple hq
    obtain ⟨u, hu, ru⟩ := rv.get hx
    have hel : e < s.heap.objs.size := Heap.lt_size he
    have hil : it < s.heap.objs.size := by obtain ⟨_, q, _⟩ := hit; exact Heap.lt_size q
    have pT : s.heap.IsTuple a its.toArray := p
    have hlt : i < its.toArray.size := by
      have := (List.getElem?_eq_some_iff.mp hu).1
      simpa using this
    refine wpAny_pyNext_enum_itemD (Draws.tuple (A := X.A.in1) (by first | exact I.ok.hd hc | exact (I.ok.hd hc)) it a hai its.toArray) he ⟨hit, pT⟩ hlt hne (by simp [hne, hae.symm]) fun x' h' tk hx' ho hst' hT hsz hk => ?_
    have ex : x' = u := by
      have : its.toArray[i]? = some u := by simpa using hu
      exact Option.some.inj (hx'.symm.trans this)
    subst ex
    refine ⟨_, rfl, wpAny_letOwnedTupleGo_enum (s := { s with heap := h', toks := tk + 1 }) ho fun h'' he' sb => ?_⟩
    have hT2 : h''.get? s.heap.objs.size = some { cls := .type "tuple", data := .seq #[.int i tk, x'] } := (sb.2 _ (Nat.ne_of_gt hel)).trans hT
    have new : ObjOk X.prog X.w (upd H s.heap.objs.size (.tup [.int (i : Nat), x])) h'' s.heap.objs.size (.tup [.int (i : Nat), x]) :=
      ⟨by show 2 ≤ sizeLine; decide, [.int i tk, x'], .cons ⟨_, rfl⟩ (.cons ru .nil), ⟨_, hT2, rfl, _, rfl⟩⟩
    have I1 : Inv X pins σ (upd H s.heap.objs.size (.tup [.int (i : Nat), x])) { s with heap := h'', toks := tk + 1 } :=
      I.turnedNew (ch := [e, it]) (fun b ob hb q => (sb.2 b (fun z => hb (by simp [z]))).trans (hk b ob (fun z => hb (by simp [z])) (fun z => hb (by simp [z])) q)) hf (Nat.le_refl _) new
    refine ⟨.ref s.heap.objs.size, _, I1, rfl, ⟨_, x, rfl, I.hok.fresh (Nat.le_refl _), rfl, fun ys hy => by rw [I.tuple_inj hy hq]; exact hx⟩, ⟨⟨x', ?_⟩, hst'.1.at fun o q => (sb.2 it (Ne.symm hne)).trans q, hne, hai, hae⟩, fun b hb => ?_⟩
    · have e1 : ((i + 1 : Nat) : Int) = (i : Int) + 1 := by omega
      rw [e1]; exact he'
    · have hb' : b < s.heap.objs.size := by
        have e' : b = e ∨ b = it := by simpa using hb
        rcases e' with z | z
        · rw [z]; exact hel
        · rw [z]; exact hil
      rw [upd_ne (Nat.ne_of_lt hb')]
      exact (hf b hb).1
  done := by
    intro X hP hw hK hc i pins s σ H E I hf st hg
    subst hP hw hK
    obtain ⟨⟨old, he⟩, hit, hne, hai, hae⟩ := st
    obtain ⟨xs, hq, hx⟩ := hg
    obtain ⟨its, rv, p, hz⟩ := I.tuple hq
    obtain ⟨f0, f1, f2, f3, f4, f5⟩ := hf it (by simp)
    have hl := rv.length
    have pT : s.heap.IsTuple a its.toArray := p
    exact enumT_end (I.ok.hd hc) he hit pT (by simp; omega) fun h' eb => ⟨rfl, I.turned (t' := s.toks) (fun b o hb q => eb b o hb q) f0 f1 f3 f4 f5⟩
  self := fun A i s Q E st h => let ⟨⟨_, he⟩, _⟩ := st; wpAny_pyIter_enum he h
def iEnumT (K : PySem.W.Frag) (ta : TA) : TI := fun σ H R => ta σ H fun vs H1 => ∃ a xs, vs = [.ref a] ∧ SqT K H1 a xs ∧ R (IteT K a) H1
theorem pi_enumT {X : Cx} {e : Expr} {ta : TA} {p pos tpos : Pos} {elts : List Expr} {kk : Nat} (hg : Gl X "enumerate") (hm : X.mg "enumerate" = none) (ha : PA X [e] ta) (hs : starEach [e] X.env = [(false, eval e X.env)] := by rfl) :
    PI X (.Tuple elts kk tpos) (.Call (.Name "enumerate" p) [e] [] pos) (iEnumT X.K ta) := by
  refine ⟨fun pins s σ H R I h => ?_⟩
  refine Call_ (ld_blt I hg hm boot_enumerate (PyProof.Rows.callWith_type1 (thn (ha.run pos pins s σ H _ I h) fun us s1 ⟨vs, H1, I1, r1, q1⟩ => ?_) hs rfl))
  obtain ⟨a, xs, ex, hq, q⟩ := q1
  subst ex
  cases r1 with
  | cons r rr =>
    cases rr
    cases r
    obtain ⟨its, rv, p', hz⟩ := I1.tuple hq
    have pT : s1.heap.IsTuple a its.toArray := p'
    have al : a < s1.heap.objs.size := by obtain ⟨_, q, _⟩ := pT; exact Heap.lt_size q
    refine call_enum_tup pT fun h' he hit hsz hk => wpAny_pyIter_enum he ?_
    have I2 : Inv X pins σ H1 { s1 with heap := h' } := I1.kept (t' := s1.toks) hk
    refine ⟨s1.heap.objs.size + 1, [s1.heap.objs.size + 1, s1.heap.objs.size], _, _, H1, rfl, I2, turn_enumT a (s1.heap.objs.size + 1) s1.heap.objs.size, ⟨⟨.none, he⟩, hit, Nat.succ_ne_self _, Nat.ne_of_lt al, Nat.ne_of_lt (Nat.lt_succ_of_lt al)⟩, fun b hb => ?_, q⟩
    have e' : b = s1.heap.objs.size + 1 ∨ b = s1.heap.objs.size := by simpa using hb
    have hle : s1.heap.objs.size ≤ b := by
      rcases e' with z | z
      · rw [z]; exact Nat.le_add_right _ _
      · rw [z]; exact Nat.le_refl _
    exact I1.fpOk hle (I1.hok.fresh hle)
/-- for i, x in enumerate(t), t a tuple that stays -/
theorem for_enumT {K : PySem.W.Frag} {a : Addr} {xs : List V} {g : TG} {tb : TS} {D : Ends} {σ : L2.St} {H : Hp} (Pv : Nat → L2.St → Hp → Prop) (h0 : Pv 0 σ H) (hl : ∀ i σ H, Pv i σ H → SqT K H a xs)
    (hs : ∀ i x T σ H1, xs[i]? = some x → Pv i σ H1 → H1 T = none → g (.ref T) σ (upd H1 T (.tup [.int (i : Nat), x])) fun σ2 H2 => tb { nx := Pv (i + 1), rt := D.rt, bk := D.nx, ct := Pv (i + 1) } σ2 H2)
    (hd : ∀ i σ H', Pv i σ H' → xs.length ≤ i → D.nx σ H') :
    ∃ W : Nat → Nat → L2.St → Hp → Prop, (∃ m, W 0 m σ H) ∧ ∀ i m σ H, W i m σ H →
      ((IteT K a).stop i H ∧ D.nx σ H) ∨ ((IteT K a).go i H ∧ ∃ N : L2.St → Hp → Prop, (∀ σ' H', N σ' H' → ∃ m', m' < m ∧ W (i + 1) m' σ' H') ∧ ∀ x H', (IteT K a).yld i H x H' → g x σ H' fun σ2 H2 => tb { nx := N, rt := D.rt, bk := D.nx, ct := N } σ2 H2) := by
  refine ⟨fun i m σ H => m = xs.length - i ∧ Pv i σ H, ⟨_, rfl, h0⟩, ?_⟩
  rintro i m σ H ⟨rfl, p⟩
  have k1 := hl i σ H p
  by_cases c : i < xs.length
  · obtain ⟨x, gx⟩ := get_of c
    refine .inr ⟨⟨xs, x, k1, gx⟩, Pv (i + 1), fun σ' H' p' => ⟨xs.length - (i + 1), by omega, rfl, p'⟩, fun z H' hy => ?_⟩
    obtain ⟨T, x', rfl, hT, rfl, f1⟩ := hy
    have ex : x' = x := Option.some.inj ((f1 _ k1).symm.trans gx)
    subst ex
    exact hs i _ T σ H gx p hT
  · exact .inl ⟨⟨xs, k1, by omega⟩, hd i σ H p (by omega)⟩
end Loc

set_option Elab.async false
set_option linter.all false
set_option maxRecDepth 100000
namespace C64
open PySem PySem.Spec PyProof.Rows L2 Loc RZ
/-! ### is_node -/
section
variable {P : Program} {w : World} {K : PySem.W.Frag} {mg : Str → Option Value} {base : Heap}
theorem scWhole : FnScope ["value"] ["value"] (defScope sWhole) := ⟨rfl, rfl, rfl, by decide +kernel, rfl, by decide +kernel, by decide +kernel⟩
theorem scElement : FnScope ["value"] ["value"] (defScope sElement) := ⟨rfl, rfl, rfl, by decide +kernel, rfl, by decide +kernel, by decide +kernel⟩
theorem scCount : FnScope ["value", "least"] ["value", "least"] (defScope sCount) := ⟨rfl, rfl, rfl, by decide +kernel, rfl, by decide +kernel, by decide +kernel⟩
def spWhole : Sp := fun vs H Q _ => ∃ z : Int, vs = [.int z] ∧ Q (.bl true) H
def spElement : Sp := fun vs H Q _ => ∃ z : Int, vs = [.int z] ∧ 0 ≤ z ∧ z ≤ 10 ^ 9 ∧ Q (.bl true) H
def spCount : Sp := fun vs H Q _ => ∃ z l : Int, vs = [.int z, .int l] ∧ l ≤ z ∧ z ≤ 10 ^ 60 ∧ Q (.bl true) H
theorem ok_whole {f : Addr} {fd : FuncData} {k : Nat} (F : Fun K "is_whole" "is_whole" sWhole f fd) (mi : mg "isinstance" = none) (mn : mg "int" = none) (mb : mg "bool" = none) : FnOk P w K mg base CX0 (k + 1) f fd ["value"] spWhole := by
  refine F.ok scWhole (fun vs H Q E h => ?_) (fun cdv A outer s H vs Q E hr h => ?_)
  · obtain ⟨z, rfl, _⟩ := h
    rfl
  · obtain ⟨z, rfl, q⟩ := h
    refine ⟨_, pss_one (ps_ret (pe_and (pe_callB call_isi (by rfl) mi PyProof.Rows.boot_isinstance (pa_cons (pv 0) (pa_cons (pe_bltn (v := .ty "int") (by rfl) mn (by decide +kernel) rfl) pa_nil)))
      (pe_one (pe_not (pe_callB call_isi (by rfl) mi PyProof.Rows.boot_isinstance (pa_cons (pv 0) (pa_cons (pe_bltn (v := .ty "bool") (by rfl) mb (by decide +kernel) rfl) pa_nil))))))), ?_⟩
    exact ⟨_, rfl, _, _, _, _, true, rfl, .ty "int", .base (.int _), kit_ty (by decide +kernel), _, rfl, _, rfl, _, _, _, _, false, rfl, .ty "bool", .base (.int _), kit_ty (by decide +kernel), _, rfl, q⟩
theorem ok_element {f g : Addr} {fd gd : FuncData} {k : Nat} (F : Fun K "is_element" "is_element" sElement f fd) (W : Fun K "is_whole" "is_whole" sWhole g gd) (gW : mg "is_whole" = some (.ref g)) (bW : Binds K gd ["value"] [])
    (mi : mg "isinstance" = none) (mn : mg "int" = none) (mb : mg "bool" = none) : FnOk P w K mg base CX0 (k + 2) f fd ["value"] spElement := by
  have GW : FnOk P w K mg base CX0 (k + 1) g gd ["value"] spWhole := ok_whole W mi mn mb
  refine F.ok scElement (fun vs H Q E h => ?_) (fun cdv A outer s H vs Q E hr h => ?_)
  · obtain ⟨z, rfl, _⟩ := h
    rfl
  · obtain ⟨z, rfl, h1, h2, q⟩ := h
    refine ⟨_, pss_one (ps_ret (pe_and (pe_call GW hr (by rfl) gW W.kp bW .nil pass0 (pa_cons (pv 0) pa_nil)) (pe_one (pe_chain op_le op_le pe_int (pv 0) (pe_op op_pow pe_int pe_int))))), ?_⟩
    refine ⟨_, rfl, z, rfl, _, rfl, _, rfl, 0, z, rfl, rfl, _, rfl, ?_⟩
    rw [decide_eq_true h1]
    refine ⟨10, 9, rfl, rfl, ⟨by decide, by decide, by decide⟩, _, _, rfl, rfl, ?_⟩
    show Q (.bl (decide (z ≤ (10 : Int) ^ (9 : Int).toNat))) H
    rw [decide_eq_true (show z ≤ (10 : Int) ^ (9 : Int).toNat from h2)]
    exact q
theorem ok_count {f g : Addr} {fd gd : FuncData} {k : Nat} (F : Fun K "is_count" "is_count" sCount f fd) (W : Fun K "is_whole" "is_whole" sWhole g gd) (gW : mg "is_whole" = some (.ref g)) (bW : Binds K gd ["value"] [])
    (mi : mg "isinstance" = none) (mn : mg "int" = none) (mb : mg "bool" = none) : FnOk P w K mg base CX0 (k + 2) f fd ["value", "least"] spCount := by
  have GW : FnOk P w K mg base CX0 (k + 1) g gd ["value"] spWhole := ok_whole W mi mn mb
  refine F.ok scCount (fun vs H Q E h => ?_) (fun cdv A outer s H vs Q E hr h => ?_)
  · obtain ⟨z, l, rfl, _⟩ := h
    rfl
  · obtain ⟨z, l, rfl, h1, h2, q⟩ := h
    refine ⟨_, pss_one (ps_ret (pe_and (pe_call GW hr (by rfl) gW W.kp bW .nil pass0 (pa_cons (pv 0) pa_nil)) (pe_one (pe_chain op_le op_le (pv 1) (pv 0) (pe_op op_pow pe_int pe_int))))), ?_⟩
    refine ⟨_, rfl, z, rfl, _, rfl, _, rfl, _, rfl, l, z, rfl, rfl, _, rfl, ?_⟩
    rw [decide_eq_true h1]
    refine ⟨10, 60, rfl, rfl, ⟨by decide, by decide, by decide⟩, _, _, rfl, rfl, ?_⟩
    show Q (.bl (decide (z ≤ (10 : Int) ^ (60 : Int).toNat))) H
    rw [decide_eq_true (show z ≤ (10 : Int) ^ (60 : Int).toNat from h2)]
    exact q
end
/-! ### is_runs, of runs -/
section
variable {P : Program} {w : World} {K : PySem.W.Frag} {mg : Str → Option Value} {base : Heap}
theorem scIsPair : FnScope ["value"] ["value"] (defScope sIsPair) := ⟨rfl, rfl, rfl, by decide +kernel, rfl, by decide +kernel, by decide +kernel⟩
def spPair (K : PySem.W.Frag) : Sp := fun vs H Q _ => ∃ (a : Addr) (k c : Nat), vs = [.ref a] ∧ SqT K H a [.int (k : Nat), .int (c : Nat)] ∧ k ≤ 10 ^ 9 ∧ 1 ≤ c ∧ c ≤ 10 ^ 60 ∧ Q (.bl true) H
theorem ok_pair (X : Facts K mg) : FnOk P w K mg base CX0 3 X.uis_pair X.vis_pair ["value"] (spPair K) := by
  have GL : FnOk P w K mg base CX0 2 X.uis_element X.vis_element ["value"] spElement := ok_element X.fis_element X.fis_whole X.gis_whole X.bis_whole X.isinstance X.int X.bool
  have GM : FnOk P w K mg base CX0 2 X.uis_count X.vis_count ["value", "least"] spCount := ok_count X.fis_count X.fis_whole X.gis_whole X.bis_whole X.isinstance X.int X.bool
  refine X.fis_pair.ok scIsPair (fun vs H Q E h => ?_) (fun cdv A outer s H vs Q E hr h => ?_)
  · obtain ⟨a, k, c, rfl, _⟩ := h
    rfl
  · obtain ⟨a, k, c, rfl, hT, hk, hc1, hc, q⟩ := h
    refine ⟨_, pss_one (ps_ret (pe_and (pe_callB call_isi (by rfl) X.isinstance PyProof.Rows.boot_isinstance (pa_cons (pv 0) (pa_cons (pe_bltn (v := .ty "tuple") (by rfl) X.tuple PyProof.Rows.boot_tuple rfl) pa_nil)))
      (pe_and (pe_cmpR op_eq (pe_callB call_len_seq (by rfl) X.len PySem.boot_len (pa_cons (pv 0) pa_nil)) pe_int (nomark _))
      (pe_and (pe_call GL hr (by rfl) X.gis_element X.fis_element.kp X.bis_element .nil pass0 (pa_cons (pe_ix ix_tup (pv 0) pe_int (fun _ _ => rfl)) pa_nil))
      (pe_one (pe_call GM hr (by rfl) X.gis_count X.fis_count.kp X.bis_count .nil pass0 (pa_cons (pe_ix ix_tup (pv 0) pe_int (fun _ _ => rfl)) (pa_cons pe_int pa_nil)))))))), ?_⟩
    refine ⟨_, rfl, _, _, _, _, true, rfl, .ty "tuple", Loc.SqT.ty hT, kit_ty (by decide +kernel), _, rfl, ?_⟩
    refine ⟨.ref a, rfl, a, _, rfl, .inr hT, rfl, _, rfl, ?_⟩
    refine ⟨.ref a, rfl, a, _, 0, _, rfl, rfl, hT, rfl, _, rfl, by omega, by omega, _, rfl, ?_⟩
    exact ⟨.ref a, rfl, a, _, 1, _, rfl, rfl, hT, rfl, _, _, rfl, by omega, by omega, q⟩
theorem scIsRuns : FnScope ["value", "at", "pair"] ["value"] (defScope sIsRuns) := ⟨rfl, rfl, rfl, by decide +kernel, rfl, by decide +kernel, by decide +kernel⟩
def spIsRuns (K : PySem.W.Frag) : Sp := fun vs H Q _ => ∃ (a : Addr) (ws : List V) (gs : List (Nd × Nat)), vs = [.ref a] ∧ SqT K H a ws ∧ PrsV K H ws gs ∧ Giv gs ∧ gs.length ≤ 300 ∧ ∀ H', Same H H' → Q (.bl true) H'
theorem ok_isruns (X : Facts K mg) : FnOk P w K mg base CX0 4 X.uis_runs X.vis_runs ["value"] (spIsRuns K) := by
  have GP := ok_pair (P := P) (w := w) (base := base) X
  refine X.fis_runs.ok scIsRuns (fun vs H Q E h => ?_) (fun cdv A outer s H vs Q E hr h => ?_)
  · obtain ⟨a, ws, gs, rfl, _⟩ := h
    rfl
  · obtain ⟨a, ws, gs, rfl, hT, kP, giv, l300, q⟩ := h
    have lw := PrsV.len kP
    refine ⟨_, pss_cons (ps_if (PW.pt (pw_or (pt_not (pt_val (pe_callB call_isi (by rfl) X.isinstance PyProof.Rows.boot_isinstance (pa_cons (pv 0) (pa_cons (pe_bltn (v := .ty "tuple") (by rfl) X.tuple PyProof.Rows.boot_tuple rfl) pa_nil)))))
          (pw_or1 (pt_cmpR op_gt (pe_callB call_len_seq (by rfl) X.len PySem.boot_len (pa_cons (pv 0) pa_nil)) (pe_glob (v := .int 300) (by rfl) X.MOST_RUNS ⟨_, rfl⟩) (nomark _))))) (pss_one (ps_ret pe_bl)) pss_nil)
      (pss_cons (ps_for PassesOwn.never rfl (pi_enumT (by rfl) X.enumerate (pa_cons (pv 0) pa_nil)) (pg_tup rfl (pgs_cons (pg_name (i := 1) scIsRuns.nd rfl (.inl rfl)) (pgs_cons (pg_name (i := 2) scIsRuns.nd rfl (.inl rfl)) pgs_nil)))
        (pss_cons (ps_if (pt_not (pt_val (pe_call GP hr (by rfl) X.gis_pair X.fis_pair.kp X.bis_pair .nil pass0 (pa_cons (pv 2) pa_nil)))) (pss_one (ps_ret pe_bl)) pss_nil)
        (pss_one (ps_if (PW.pt (pw_and (pt_cmpR op_gt (pv 1) pe_int (nomark _)) (pw_and1 (pt_cmpR op_eq (pe_ix ix_tup (pe_ix ix_tup (pv 0) (pe_op op_sub (pv 1) pe_int) (fun _ _ => rfl)) pe_int (fun _ _ => rfl)) (pe_ix ix_tup (pv 2) pe_int (fun _ _ => rfl)) (nomark _)))))
          (pss_one (ps_ret pe_bl)) pss_nil))))
      (pss_one (ps_ret pe_bl))), ?_⟩
    refine ⟨_, rfl, _, _, _, _, true, rfl, .ty "tuple", Loc.SqT.ty hT, kit_ty (by decide +kernel), _, rfl, ?_⟩
    refine ⟨.ref a, rfl, a, ws, rfl, .inr hT, _, _, rfl, rfl, _, rfl, ?_⟩
    rw [decide_eq_false (show ¬ (300 : Int) < ((ws.length : Nat) : Int) by omega)]
    refine iteF ⟨.ref a, rfl, a, ws, rfl, hT, ?_⟩
    refine for_enumT (xs := ws) (fun i σ H' => ∃ y1 y2, σ = [some (.ref a), y1, y2] ∧ Same H H') ⟨none, none, rfl, Same.refl H⟩ (fun i σ H' hp => ?_) (fun i x T σ H1 hx hp nT => ?_) (fun i σ H' hp _ => ?_)
    · obtain ⟨_, _, _, s1⟩ := hp
      exact sameT s1 hT
    · obtain ⟨y1, y2, rfl, s1⟩ := hp
      obtain ⟨pr, ra, v, hpi, rfl, t1, t2⟩ := (PrsV.up (.of s1) kP).get hx
      obtain ⟨⟨k, ek, hk⟩, c1, c2⟩ := giv.1 pr (List.mem_of_getElem? hpi)
      rw [ek] at t2
      have ev := t2.el
      subst ev
      have sT := sameN (o := .tup [.int (i : Nat), .ref ra]) nT
      have s2 := s1.trans sT
      have t1' := sameT sT t1
      refine ⟨T, _, rfl, .inl (.inl upd_same), rfl, _, _, rfl, _, [], rfl, rfl, ?_⟩
      refine ⟨.ref ra, rfl, ra, k, pr.2, rfl, t1', hk, c1, Nat.le_trans c2 (by decide), _, rfl, iteF ?_⟩
      refine ⟨_, rfl, _, _, rfl, rfl, _, rfl, ?_⟩
      by_cases z : i = 0
      · subst z
        rw [decide_eq_false (show ¬ (0 : Int) < ((0 : Nat) : Int) by omega)]
        exact iteF ⟨_, _, rfl, s2⟩
      · rw [decide_eq_true (show (0 : Int) < ((i : Nat) : Int) by omega)]
        have il := (List.getElem?_eq_some_iff.mp hpi).1
        obtain ⟨j, rfl⟩ : ∃ j, i = j + 1 := ⟨i - 1, by omega⟩
        obtain ⟨x0, hx0⟩ := get_of (l := ws) (i := j) (by omega)
        obtain ⟨pr0, ra0, v0, hpi0, rfl, u1, u2⟩ := (PrsV.up (.of s2) kP).get hx0
        obtain ⟨⟨k0, ek0, _⟩, _⟩ := giv.1 pr0 (List.mem_of_getElem? hpi0)
        rw [ek0] at u2
        have ev := u2.el
        subst ev
        have ne := giv.2 j pr0 pr hpi0 hpi
        rw [ek, ek0] at ne
        refine iteT ⟨.ref a, rfl, _, rfl, _, _, rfl, rfl, a, ws, j, .ref ra0, rfl, ?_, sameT s2 hT, atI_nat hx0, ra0, _, 0, _, rfl, rfl, u1, rfl, .ref ra, rfl, ra, _, 0, _, rfl, rfl, t1', rfl, rfl, _, rfl, ?_⟩
        · exact int_congr (by omega)
        rw [decide_eq_false (fun h => ne (by have := V.int.inj h; congr 1; omega))]
        exact iteF ⟨_, _, rfl, s2⟩
    · obtain ⟨y1, y2, rfl, s1⟩ := hp
      exact q H' s1
end
end C64

set_option Elab.async false
set_option linter.all false
set_option maxRecDepth 100000
set_option maxHeartbeats 2000000
/-! ### an error that was caught, kept as a value -/
namespace Loc
open PySem PySem.Spec PyProof.Rows L2
/-- an error of the class at C, its dict at d -/
def ErrO (C d a : Addr) : HO := .ext fun h => ∃ (oe : Obj) (vs : Array Value), h.get? a = some oe ∧ Zc (.ref C) (some d) oe ∧ oe.data = .fields vs
theorem errO_ok {P : Program} {w : World} {H : Hp} {h : Heap} {C d a : Addr} {oe : Obj} {vs : Array Value} (e : h.get? a = some oe) (z : Zc (.ref C) (some d) oe) (q : oe.data = .fields vs) : ObjOk P w H h a (ErrO C d a) :=
  ⟨⟨oe, vs, e, z, q⟩, ⟨oe, e⟩, fun _ _ ⟨o, v, r1, r2⟩ k => ⟨o, v, k o r1, r2⟩⟩
section
variable {X : Cx} {pins : List (Addr × Obj)} {σ : L2.St} {H : Hp} {s : Shared}
/-- an object that stands there already is looked at from now on -/
theorem Inv.track {a : Addr} {φ : Heap → Prop} (I : Inv X pins σ H s) (na : H a = none) (nL : a ≠ X.env.locals) (n0 : X.s_0.heap.get? a = none) (nP : ∀ p ∈ X.pn ++ pins, p.1 ≠ a) (nC : ∀ x c, X.env.cells.lookup x = some c → c ≠ a)
    (new : ObjOk X.prog X.w (upd H a (.ext φ)) s.heap a (.ext φ)) : Inv X pins σ (upd H a (.ext φ)) s := by
  have far : ∀ {b : Addr} {u : HO}, H b = some u → b ≠ a := fun e z => by
    rw [z, na] at e
    cases e
  have same : ∀ {b : Addr}, b ≠ a → upd H a (.ext φ) b = H b := fun h => upd_ne h
  refine { ok := I.ok, os := I.os, bare := I.bare, base := ?_, loc := I.loc, cell := I.cell, free := ?_, freeC := ?_, pin := ?_, hok := ?_, len := I.len }
  · refine { keep := I.base.keep, slot := I.base.slot, free := ?_, there := I.base.there, tups := ?_, frzs := ?_, tbls := ?_ }
    · intro b o e h1 h2
      have hb : b ≠ a := fun z => by
        rw [z, n0] at e
        cases e
      rw [same hb]
      exact I.base.free b o e h1 h2
    · intro b xs e
      have k := I.base.tups b xs e
      rw [same (far k)]
      exact k
    · intro b o u e
      have k := I.base.frzs b o u e
      rw [same (far k)]
      exact k
    · intro b ps e
      obtain ⟨more, k⟩ := I.base.tbls b ps e
      exact ⟨more, (same (far k)).trans k⟩
  · exact (same nL.symm).trans I.free
  · intro x c e
    exact (same (nC x c e)).trans (I.freeC x c e)
  · intro p hp
    obtain ⟨e1, e2, e3⟩ := I.pin p hp
    exact ⟨e1, (same (nP p hp)).trans e2, e3⟩
  · intro b u e
    by_cases hb : b = a
    · subst hb
      rw [upd_same] at e
      cases e
      exact new
    · rw [same hb] at e
      exact (I.hok b u e).stay (fun c v _ r => r) (fun c r => (same (far r)).trans r) (fun c xs r => (same (far r)).trans r)
end
/-- what is wished of the body's error by 'except x as n: m = n' -/
def wKeep (K : PySem.W.Frag) (c : Value) (i j : Nat) (Wout : WX) (D : Ends) : WX := fun cls d σ H =>
  ∃ b, PySem.W.exmOne K cls c = some b ∧ (b = true → ∃ C dd, cls = .ref C ∧ d = some dd ∧ ∀ a, H a = none → D.nx (((σ.set i (some (.ref a))).set j (some (.ref a))).set i none) (upd H a (ErrO C dd a))) ∧ (b = false → Wout cls d σ H)
section
variable {X : Cx} {x n m : Str} {c : Value} {i j : Nat} {body : List Stmt} {np pos pos' q1 q2 q3 : Pos} {tb : WX → TS} {Wout : WX}
theorem ps_try_keep (hs : X.stack = X.env :: X.outer) (hf : X.env.frame = some X.env.locals) (hN : X.N.Nodup) (hi : X.N[i]? = some n) (hln : X.env.kindOf n = some .local) (hj : X.N[j]? = some m) (hlm : X.env.kindOf m = some .local) (hij : i < X.N.length) (hne : i ≠ j)
    (hex : X.ex = []) (hc : Names X x c) (tk : Takes X Wout) (hdn : (n == ("__debug__" : Str)) = false := by decide) (hcn : (n == ("__classdict__" : Str)) = false := by decide) 
    (hb : ∀ (W : WX) (pn : List (Addr × Obj)) (xe : Value → Shared → Prop), Takes (X.tr pn xe) W → PassesOwn (model X.prog X.w) X.A X.env xe → PSs (X.tr pn xe) body (tb W)) :
    PS X (.Try body [.ExceptHandler (some (.Name x np)) (some n) [.Assign [.Name m q1] (.Name n q2) q3] pos'] [] [] pos) (fun D σ H => tb (wKeep X.K c i j Wout D) D σ H) := by
  constructor
  intro pins s σ H D I h
  have ok := I.ok
  have frs1 : X.A.frames = some (X.env :: X.outer) := ok.frames.trans (congrArg some hs)
  refine wpAny_Try_except ?_
  let after : Value → Shared → Prop := fun e s1 => wpAny (model X.prog X.w) X.A (noteFrame e X.env) (fun _ s2 => wpAny (model X.prog X.w) X.A (setFlight e none) (fun _ s3 =>
      wpAny (model X.prog X.w) X.A (handleBy e X.env [.ExceptHandler (some (.Name x np)) (some n) [.Assign [.Name m q1] (.Name n q2) q3] pos']) (SP X pins D) X.xe s3) X.xe s2) X.xe s1
  have run := (hb (wKeep X.K c i j Wout D) (X.pn ++ pins) after (fun u s' air => ?_) PassesOwn.looking).run [] s σ H D (I.toTry _) h
  · refine wpAny_mono run (fun f s1 hsp => ?_) (fun e s1 he => he)
    cases f with
    | next =>
      obtain ⟨σ1, H1, J, k⟩ := hsp
      exact wpAny_execs_nil ⟨σ1, H1, J.ofTry ok, k⟩
    | ret u =>
      obtain ⟨v, σ1, H1, J, r, k⟩ := hsp
      exact ⟨v, σ1, H1, J.ofTry ok, r, k⟩
    | brk =>
      obtain ⟨σ1, H1, J, k⟩ := hsp
      exact ⟨σ1, H1, J.ofTry ok, k⟩
    | cont =>
      obtain ⟨σ1, H1, J, k⟩ := hsp
      exact ⟨σ1, H1, J.ofTry ok, k⟩
  · obtain ⟨a, B, sI, pins1, σ1, H1, cls, d, rfl, J0, ground, up, sky, na, os, ag, b, hb1, hyes, hno⟩ := air
    have J : Inv X pins σ1 H1 sI := J0.ofTry ok
    show after (.ref a) s'
    show wpAny (model X.prog X.w) X.A (noteFrame (.ref a) X.env) _ _ _
    have sky1 : Sky B (X.env :: X.outer) a (Zc cls d) X.env.locals s'.heap := hs ▸ sky
    have noB : B.get? a = none := by
      rcases sky1 with z | z | z
      · exact z.2.1
      · exact z.2.1
      · exact z.2.1
    refine Sky.land Zc.steady frs1 hf sky1 fun h3 fly up3 => ?_
    have J3 : Inv X pins σ1 H1 { s' with heap := h3 } := J.landed ground fly.1 (up.trans up3) os ag
    obtain ⟨oe3, vs3, he3, hz3, hd3⟩ := fly.there
    have noFr : a ∉ frs (X.env :: X.outer) := fun hm => by
      obtain ⟨_, o', e', hnf⟩ := fly.2.2.1.mem hm
      rw [he3] at e'
      cases e'
      exact hnf _ hd3
    have noL : a ≠ X.env.locals := fun z => noFr (List.mem_filterMap.mpr ⟨X.env, List.mem_cons_self, by rw [hf, z]⟩)
    have noF : a ∉ X.fs := fun hm => by
      obtain ⟨e, he, k⟩ := List.mem_filterMap.mp hm
      exact noFr (List.mem_filterMap.mpr ⟨e, List.mem_cons_of_mem _ he, k⟩)
    have noI : sI.heap.get? a = none := by
      cases e : sI.heap.get? a with
      | none => rfl
      | some o =>
        have := ground a o e (by rw [hs]; exact noFr)
        rw [noB] at this
        cases this
    have no0 : X.s_0.heap.get? a = none := by
      cases e : X.s_0.heap.get? a with
      | none => rfl
      | some o =>
        obtain ⟨o', e'⟩ := J.base.there a o e (by rw [hex]; exact fun z => nomatch z)
        rw [noI] at e'
        cases e'
    have noP : ∀ p ∈ X.pn ++ pins, p.1 ≠ a := fun p hp z => by
      have e := (J.pin p hp).1
      rw [z, noI] at e
      cases e
    have noC : ∀ y k, X.env.cells.lookup y = some k → k ≠ a := fun y k e z => by
      obtain ⟨v, o, ho, _⟩ := J.cell y k e
      rw [z, noI] at ho
      cases ho
    have S3 := J3.suite he3 hd3 na noL noF
    refine wpAny_handleBy_cons (codeAny_handlers_test ?_) (by intro z; cases z)
    have look := PySem.W.exm_one (M := model X.prog X.w) J3.kIn (fun A Q E s k z => wpAny_typeOf_ref (k _ _ he3) (by rw [hz3.1]; exact z)) hb1
    have named : ∀ {Q : Value → Shared → Prop} {E : Value → Shared → Prop}, Q c { s' with heap := h3 } → wpAny (model X.prog X.w) (X.A.mark (some (.ref a))) (eval (.Name x np) X.env) Q E { s' with heap := h3 } := fun {Q E} z => by
      obtain ⟨g1, g2, g3 | ⟨g3, g4, g5⟩⟩ := hc
      · exact ld_glob (X := X.suite a ((a, oe3) :: (X.pn ++ pins))) S3 g1 g3 z g2
      · exact ld_blt (X := X.suite a ((a, oe3) :: (X.pn ++ pins))) S3 g1 g3 g4 z g5 g2
    refine named (look.here ?_)
    cases b with
    | false =>
      show wpAny _ X.A (handleBy (.ref a) X.env []) _ _ _
      refine wpAny_handleBy_nil ?_
      obtain ⟨_, _, _, oe, vs, T, oT, ts', f1, f2, f3, f4, f5⟩ := id fly
      unfold PySem.passOn
      refine wpAny_bind (wpAny_field f1 f3 f4 ?_)
      have nz : ¬ ((Value.ref T == Value.none) = true) := by simp
      rw [if_neg nz]
      have out : wpAny (model X.prog X.w) X.A (setFlight (.ref a) X.env.frame) (fun _ s4 => wpAny (model X.prog X.w) X.A (throw (.ref a) : Sem Flow) (SP X pins D) X.xe s4) X.xe { s' with heap := h3 } := by
        rw [hf]
        refine HandSPX.setFlight_upZ fly fun h4 held up4 => wpAny_throw (tk _ _ ?_)
        refine ⟨a, B, sI, pins, σ1, H1, cls, d, rfl, J, ground, (up.trans up3).trans up4, .inr (.inr ?_), na, os, ag, hno rfl⟩
        rw [hs]
        exact held
      first
        | exact wpAny_bind (wpAny_pure (wpAny_bind out))
        | exact wpAny_bind out
    | true =>
      obtain ⟨C, dd, rfl, rfl, fin⟩ := hyes rfl
      refine codeAny_handlers_suite_as ?_
      refine HandSPX.lands_againZ fly fun h4 fly4 up4 => ?_
      have J4 : Inv X pins σ1 H1 { s' with heap := h4 } := J.landed ground fly4.1 ((up.trans up3).trans up4) os ag
      obtain ⟨oe4, vs4, he4, hz4, hd4⟩ := fly4.there
      have S4 := J4.suite he4 hd4 na noL noF
      refine store_ok (X := X.suite a ((a, oe4) :: (X.pn ++ pins))) (v := .ref a) S4 hN hi (.inl hln) rfl (fun s5 S5 => ?_) (.inr hln)
      have put : PSs (X.suite a ((a, oe4) :: (X.pn ++ pins))) [.Assign [.Name m q1] (.Name n q2) q3] _ := pss_one (ps_set (i := j) hN hj (.inl hlm) (pe_var (i := i) hi (.inl hln) hdn hcn) (hf := .inr hlm))
      have ht : (σ1.set i (some (V.ref a)))[i]? = some (some (V.ref a)) := by
        rw [List.getElem?_set_self]
        rw [J4.len]
        exact hij
      refine wpAny_mono (put.run [] s5 _ H1 { nx := fun σ' H' => σ' = (σ1.set i (some (.ref a))).set j (some (.ref a)) ∧ H' = H1, rt := fun _ _ => False } S5 ⟨.ref a, ht, rfl, rfl⟩) (fun f s6 hsp => ?_) (fun _ _ z => False.elim z)
      cases f with
      | next =>
        obtain ⟨σ6, H6, S6, rfl, rfl⟩ := hsp
        have e6 := (S6.pin (a, oe4) (List.mem_append_left _ List.mem_cons_self)).1
        have T6 : Inv X pins ((σ1.set i (some (.ref a))).set j (some (.ref a))) (upd H6 a (ErrO C dd a)) s6 := Inv.track (S6.unsuite ok) na noL no0 noP noC (errO_ok e6 hz4 hd4)
        exact gone_ok T6 hN hi hln fun s7 J7 => ⟨_, _, J7, fin a na⟩
      | brk =>
        obtain ⟨_, _, _, z⟩ := hsp
        exact False.elim z
      | cont =>
        obtain ⟨_, _, _, z⟩ := hsp
        exact False.elim z
      | ret u =>
        obtain ⟨_, _, _, _, _, z⟩ := hsp
        exact False.elim z
end
end Loc

set_option Elab.async false
set_option linter.all false
set_option maxRecDepth 100000
set_option maxHeartbeats 2000000
/-! ### what is asked of such an error -/
namespace Loc
open PySem PySem.Spec PyProof.Rows L2
/-- what the class at C must say -/
structure ErrC (K : PySem.W.Frag) (C : Addr) : Prop where
  ga : PySem.W.findIn K (.ref C) "__getattribute__" = some (some (.builtin "BaseException.__getattribute__"))
  gg : PySem.W.findIn K (.ref C) "__getattr__" = some none
  sub : PySem.W.subIn K (.ref C) (.type "BaseException") = some true
  hd : PySem.W.hasDictIn K C = true
  at_ : PySem.W.findIn K (.ref C) "__class__" = some (some (.builtin "object.__class__"))
  get : PySem.W.specialIn K (.builtin "object.__class__") "__get__" = some (some (.builtin "getset_descriptor.__get__"))
  tak : PySem.W.takesIn K (.builtin "object.__class__") = some true
  mro : PySem.W.mroIn K C (.type "object") = some true
theorem ErrC.cl {K : PySem.W.Frag} {C : Addr} (h : ErrC K C) : (PySem.W.clsIn K C).isSome = true := by
  obtain ⟨cd, e, _⟩ := PySem.W.any_some h.hd
  rw [e]
  rfl
/-- such an error stands at a: its class, its attributes -/
def Err (H : Hp) (a C : Addr) (fs : List (Str × V)) : Prop := ∃ d, H a = some (ErrO C d a) ∧ H d = some (.xd fs)
theorem Err.same {H H' : Hp} {a C : Addr} {fs : List (Str × V)} (h : Err H a C fs) (s : Same H H') : Err H' a C fs := let ⟨d, e1, e2⟩ := h; ⟨d, s _ _ e1, s _ _ e2⟩
section
variable {X : Cx} {pins : List (Addr × Obj)} {σ : L2.St} {H : Hp} {s : Shared} {a C : Addr} {fs : List (Str × V)}
theorem Err.inst (I : Inv X pins σ H s) (h : Err H a C fs) : ∃ oe od, PySem.W.InstAt s.heap a oe C (some od) ∧ ∀ n v, fs.lookup n = some v → ∃ u, PySem.W.lookIn n od = some (some u) ∧ RelV v u := by
  obtain ⟨d, e1, e2⟩ := h
  have k1 : ObjOk X.prog X.w H s.heap a (ErrO C d a) := I.hok a _ e1
  obtain ⟨⟨oe, vs, g1, g2, g3⟩, _, _⟩ := k1
  have k2 : ObjOk X.prog X.w H s.heap d (.xd fs) := I.hok d _ e2
  obtain ⟨mA, ns, rel⟩ := k2
  obtain ⟨od, ho, hl⟩ := lookIn_ns ns
  refine ⟨oe, od, ⟨g1, g2.1, ?_, ?_⟩, fun n v e => ?_⟩
  · unfold PySem.W.notCls
    rw [g3]
  · rw [g2.2]
    exact ho
  · obtain ⟨u, hu, ru⟩ := RelO.some_of (v := v) (o := mA n) (by rw [← e]; exact rel n)
    exact ⟨u, by rw [hl, hu], ru⟩
/-- isinstance(e, c) -/
def rIsV (K : PySem.W.Frag) : List V → Hp → VK → Prop := fun xs H Q => ∃ (a C : Addr) (fs : List (Str × V)) (c : V) (cv : Value) (b : Bool), xs = [.ref a, c] ∧ Err H a C fs ∧ ErrC K C ∧ ClsV c cv ∧ PySem.W.kitOne K (.ref C) cv = some b ∧ Q (.bl b) H
theorem call_isV : CallR X (.builtin "isinstance") (rIsV X.K) := by
  intro pins s σ H xs us Q I r h
  obtain ⟨a, C, fs, c, cv, b, rfl, he, k, hc, e, q⟩ := h
  obtain ⟨u1, u2, rfl, r1, r2⟩ := vals2 r
  have e2 := hc.eq r2
  subst e2
  cases (show u1 = Value.ref a from r1)
  obtain ⟨oe, od, J, _⟩ := he.inst I
  exact PySem.W.kia_one (PySem.W.kitx_exc k.cl k.ga k.gg k.sub k.at_ k.get k.tak k.mro) I.kIn J e (fun z => nomatch z) fun tk => ⟨.bl b, H, I.tok tk, rfl, q⟩
/-- isinstance(e, (c1, c2, ..)) -/
def rIsVT (K : PySem.W.Frag) : List V → Hp → VK → Prop := fun xs H Q => ∃ (a C tp : Addr) (fs : List (Str × V)) (cs : List V) (cvs : List Value) (b : Bool), xs = [.ref a, .ref tp] ∧ Err H a C fs ∧ ErrC K C ∧ H tp = some (.tup cs) ∧ Paired ClsV cs cvs ∧ PySem.W.kitAny K (.ref C) cvs = some b ∧ Q (.bl b) H
theorem call_isVT : CallR X (.builtin "isinstance") (rIsVT X.K) := by
  intro pins s σ H xs us Q I r h
  obtain ⟨a, C, tp, fs, cs, cvs, b, rfl, he, k, hT, hc, e, q⟩ := h
  obtain ⟨u1, u2, rfl, r1, r2⟩ := vals2 r
  cases (show u1 = Value.ref a from r1)
  cases (show u2 = Value.ref tp from r2)
  obtain ⟨oe, od, J, _⟩ := he.inst I
  have kT : ObjOk X.prog X.w H s.heap tp (.tup cs) := I.hok tp _ hT
  obtain ⟨_, its, rv, o, h1, h2, n, h3⟩ := kT
  have e3 := ClsV.all hc rv
  subst e3
  obtain ⟨oc, od', dt, sl⟩ := o
  simp only at h2 h3
  subst h2 h3
  exact PySem.W.kia_tup (PySem.W.kitx_exc k.cl k.ga k.gg k.sub k.at_ k.get k.tak k.mro) I.kIn J h1 e (fun z => nomatch z) fun tk => ⟨.bl b, H, I.tok tk, rfl, q⟩
/-- e.f -/
def tErrF (K : PySem.W.Frag) (f : Str) (te : TE) : TE := fun σ H Q => te σ H fun x H1 => ∃ (a C : Addr) (fs : List (Str × V)) (v : V), x = .ref a ∧ Err H1 a C fs ∧ ErrC K C ∧ PySem.W.findIn K (.ref C) f = some none ∧ fs.lookup f = some v ∧ Q v H1
theorem pe_errf {e : Expr} {te : TE} {pos : Pos} {n : Str} (he : PE X e te) (hb : attributeBase e n X.env (eval e X.env) = eval e X.env := by rfl) : PE X (.Attribute e n pos) (tErrF X.K n te) := by
  constructor
  intro pins s σ H Q I h
  refine attr_of hb (thn (he.run pins s σ H _ I h) fun u s1 hu => ?_)
  obtain ⟨x, H1, I1, rx, a, C, fs, v, rfl, hE, k, hno, hl, q⟩ := hu
  cases (show u = Value.ref a from rx)
  obtain ⟨oe, od, J, look⟩ := hE.inst I1
  obtain ⟨u, hu, ru⟩ := look n v hl
  exact HandSPX.exc_get I1.kIn J k.ga k.gg k.sub (PySem.W.findObj_own k.hd hno rfl hu) (handed_of ru) ⟨v, H1, I1.tok _, ru, q⟩
end
end Loc

set_option Elab.async false
set_option linter.all false
set_option maxRecDepth 100000
set_option maxHeartbeats 2000000
/-! ### errors with one value, or two: made and raised -/
namespace Loc
open PySem PySem.Spec PyProof.Rows L2
/-- the first def of a class -/
def initOf (st : Stmt) : Stmt := match st with
  | .ClassDef _ _ _ b _ _ _ _ _ _ _ => b.getD 0 (.Pass ⟨0, 0, 0, 0⟩)
  | s => s
/-- what is known of an error class with one value -/
structure Cls1 (K : PySem.W.Frag) (mg : Str → Option Value) (x q f : Str) (st : Stmt) (C fI : Addr) (fd : FuncData) : Prop where
  g : mg x = some (.ref C)
  ox : OexC K C
  er : ErrC K C
  no : PySem.W.findIn K (.ref C) f = some none
  iC : PySem.W.findIn K (.ref C) "__init__" = some (some (.ref fI))
  tI : PySem.W.typeIn K (.ref fI) = some (.type "function")
  F : Fun K "__init__" q st fI fd
  b : Binds K fd ["self", f] []
def spInit1 (K : PySem.W.Frag) (C : Addr) (f : Str) : Sp := fun vs H Q _ => ∃ (a : Addr) (v : V), vs = [.ref a, v] ∧ OexC K C ∧ H a = some (exo a C none) ∧ PySem.W.findIn K (.ref C) f = some none ∧
  ∀ dx, H dx = none → dx ≠ a → Q .non (upd (upd H dx (exd dx [(f, v)])) a (exo a C (some dx)))
theorem mk_one {K : PySem.W.Frag} {C : Addr} {f : Str} {v : V} {H : Hp} {Q : XK} (ox : OexC K C) (no : PySem.W.findIn K (.ref C) f = some none) (q : ∀ d, H d = none → Q (.ref C) (some d) (upd H d (.xd [(f, v)]))) :
    [v].length ≤ 1000 ∧ ∀ a, H a = none → spInit1 K C f (.ref a :: ([v] ++ [])) (upd H a (exo a C none))
      (fun v' H2 => v' = .non ∧ ∃ (d : Addr) (fs : List (Str × V)), H2 a = some (exo a C (some d)) ∧ H2 d = some (exd d fs) ∧ H d = none ∧ Q (.ref C) (some d) (upd (L2.del H2 a) d (.xd fs))) (fun _ _ _ => False) := by
  refine ⟨(by show 1 ≤ 1000; decide), fun a na => ⟨a, v, rfl, ox, upd_same, no, fun dx n ne => ⟨rfl, dx, [(f, v)], upd_same, by rw [upd_ne ne, upd_same], by rw [upd_ne ne] at n; exact n, ?_⟩⟩⟩
  have n' : H dx = none := by rw [upd_ne ne] at n; exact n
  have e : upd (L2.del (upd (upd (upd H a (exo a C none)) dx (exd dx [(f, v)])) a (exo a C (some dx))) a) dx (.xd [(f, v)]) = upd H dx (.xd [(f, v)]) := by
    funext b
    by_cases h1 : b = dx
    · rw [h1, upd_same, upd_same]
    · rw [upd_ne h1, upd_ne h1]
      by_cases h2 : b = a
      · rw [h2, L2.del_same, na]
      · rw [L2.del_ne h2, upd_ne h2, upd_ne h1, upd_ne h2]
  rw [e]
  exact q dx n'
/-- .. with two values -/
structure Cls2 (K : PySem.W.Frag) (mg : Str → Option Value) (x q f g' : Str) (st : Stmt) (C fI : Addr) (fd : FuncData) : Prop where
  g : mg x = some (.ref C)
  ox : OexC K C
  er : ErrC K C
  no : PySem.W.findIn K (.ref C) f = some none
  no2 : PySem.W.findIn K (.ref C) g' = some none
  iC : PySem.W.findIn K (.ref C) "__init__" = some (some (.ref fI))
  tI : PySem.W.typeIn K (.ref fI) = some (.type "function")
  F : Fun K "__init__" q st fI fd
  b : Binds K fd ["self", f, g'] []
section
variable {X : Cx} {W : WX} {x f q : Str} {st : Stmt} {C fI : Addr} {fd : FuncData} {k : Nat} {e : Expr} {te : TE} {p pos pos2 : Pos}
/-- raise x(e) -/
theorem ps_raise1 (hc : X.calm = true) (tk : Takes X W) (T : Cls1 X.K X.mg x q f st C fI fd) (F1 : FnOk X.prog X.w X.K X.mg X.base CX0 k fI fd ["self", f] (spInit1 X.K C f)) (hr : Room (k + 1) X.A) (ha : PE X e te) (hg : Gl X x := by rfl)
    (hdb : (x == ("__debug__" : Str)) = false := by decide) (he : starEach (e :: []) X.env = (false, eval e X.env) :: starEach [] X.env := by rfl) (hpl : (backTo pos (starEach [] X.env)).any (·.1) = false := by rfl) :
    PS X (.Raise (some (.Call (.Name x p) [e] [] pos)) none pos2) (fun _ σ H => tMkO C (spInit1 X.K C f) [] (tCons te tNil) σ H fun cls d H' => W cls d σ H') :=
  ps_raise hc tk (pmk_oex T.ox T.iC T.tI F1 hr T.b .nil pass0 hg T.g (pa_cons ha pa_nil he) hdb he hpl)
end
end Loc

set_option Elab.async false
set_option linter.all false
set_option maxRecDepth 100000
set_option maxHeartbeats 4000000
/-! ### an own error class called, with keywords, its __init__ any callee -/
namespace Loc
namespace XK
open PySem PySem.W PySem.Calls PyProof.Rows PySem.HandSPX
section
variable {M : Model} {prog : Program} {w : World} {A : Around} {E : Value → Shared → Prop} {R : Result → Shared → Prop} {h : Heap} {g : Array GenState} {d : Drawn} {t : Nat} {os : OsState}
variable {nm q : Str} {C N : Addr} {bs bm bmB : List Value} {hdct : Bool} {sn : List Str} {sub : List Value} {ab : Bool} {col : Option Bool} {dd : Option Addr} {k0 k1 k2 k3 k5 : Option Value} {B newId initId : String}
/-- the check ahead of B.__new__ -/
theorem kw_check_new (F : ExcBaseFacts B newId initId bmB) (hT : ∀ Y : String, bm.contains (.type Y) = bmB.contains (.type Y)) {us : List Value} {kw : List (Str × Value)} {Q : Unit → Shared → Prop}
    (cls : h.get? C = some (excClassObj nm q C N bs bm hdct sn sub ab col dd k0 k1 k2 k3 k5 newId)) (hq : Q () ⟨h, g, d, t, os⟩) : wpAny M A (checkBuiltinCall newId ⟨.ref C :: us, kw⟩) Q E ⟨h, g, d, t, os⟩ := by
  have inB : (Value.ref C :: bm).contains (.type B) = true := by rw [List.contains_cons, hT, F.hasB, Bool.or_true]
  have nostar := F.noStar
  simp only [checkBuiltinCall, F.newKind, F.newSplit, F.newRow]
  repeat (first | refine wpAny_loadPart_at cls ?_ | (refine wpAny_isSubtype_exc cls ?_; rw [inB]) | refine wpAny_staticBase_exc cls ?_ | refine wpAny_madeBy_exc cls ?_ | simp only [bne_self_eq_false, Bool.false_eq_true, if_false] | wp_step)
  exact hq
/-- B.__new__ takes keywords and leaves them -/
theorem kw_new (F : ExcBaseFacts B newId initId bmB) (hT : ∀ Y : String, bm.contains (.type Y) = bmB.contains (.type Y)) {us : List Value} {kw : List (Str × Value)}
    (cls : h.get? C = some (excClassObj nm q C N bs bm hdct sn sub ab col dd k0 k1 k2 k3 k5 newId))
    (hq : R (.ok (.ret (.ref (h.objs.size + 1)))) ⟨(h.push (kdv_tup us)).push (excO C h.objs.size), g, d, t, os⟩) (hlen : us.length ≤ sizeLine) :
    codeAny (model prog w) A (.builtin newId ⟨.ref C :: us, kw⟩) R ⟨h, g, d, t, os⟩ := by
  have hends := F.ends
  have inB : (Value.ref C :: bm).contains (.type B) = true := by rw [List.contains_cons, hT, F.hasB, Bool.or_true]
  have inA : (Value.ref C :: bm).contains (.type "AttributeError") = false := by rw [List.contains_cons, hT, F.noAttr]; rfl
  have inN : (Value.ref C :: bm).contains (.type "NameError") = false := by rw [List.contains_cons, hT, F.noName]; rfl
  refine codeAny_builtinAt F.entry ?_
  unfold Builtin.«BaseException.__new__»
  refine PySem.wpAt_bind (show PySem.wpAt _ _ _ (stack >>= _) _ _ _ from PySem.wpAt_bind (PySem.wpAt_stack fun top below => PySem.wpAt_of_wpAny ?_))
  wp_walk
  refine PySem.wpAt_of_wpAny ?_
  rw [F.owner]
  repeat (first | with_reducible refine wpAny_madeHere_exc F.canon cls ?_ | with_reducible refine wpAny_loadPart_at cls ?_ | (with_reducible refine wpAny_isSubtype_exc cls ?_; first | rw [inB] | rw [inA] | rw [inN]) | wp_step)
  show R _ _
  rw [Heap.size_push]
  exact hq
/-- type.__call__ on such a class -/
theorem kw_type_call (F : ExcBaseFacts B newId initId bmB) (hT : ∀ Y : String, bm.contains (.type Y) = bmB.contains (.type Y)) {us : List Value} {kw : List (Str × Value)} {fi : Value} {Q : Fin → Shared → Prop}
    (cls : h.get? C = some (excClassObj nm q C N bs bm hdct sn sub ab col dd k0 k1 k2 k3 k5 newId))
    (hi : Looks (model prog w) h (typeLookup (.ref C) "__init__") (some fi)) (hb : ∀ me, Looks (model prog w) h (bindSpecial fi me) (fi, [me])) (hlen : us.length ≤ sizeLine)
    (hq : codeAny (model prog w) A (.call fi ⟨.ref (h.objs.size + 1) :: us, kw⟩)
      (fun r s' => match r with | .ok (.ret v) => v = .none ∧ Q (.done (.ret (.ref (h.objs.size + 1)))) s' | .ok _ => False | .error e => E e s') ⟨(h.push (kdv_tup us)).push (excO C h.objs.size), g, d, t, os⟩) :
    wpAny (model prog w) A (Builtin.«type.__call__» ⟨.ref C :: us, kw⟩) Q E ⟨h, g, d, t, os⟩ := by
  repeat (first | with_reducible refine wpAny_loadPart_at cls ?_ | with_reducible refine wpAny_madeBy_exc cls ?_ | wp_step)
  refine codeAny_call_builtin_code (Code.quiet_builtin _ F.quiet) (kw_check_new F hT cls (kw_new F hT cls ?_ hlen))
  show wpAny _ _ _ _ _ _
  have kept : ∀ b o, h.get? b = some o → ((h.push (kdv_tup us)).push (excO C h.objs.size)).get? b = some o := fun b o e => Heap.get?_push_of_some _ (Heap.get?_push_of_some _ e)
  have cls1 := kept _ _ cls
  have there : ((h.push (kdv_tup us)).push (excO C h.objs.size)).get? (h.objs.size + 1) = some (excO C h.objs.size) := by heap_get
  have own : (Value.ref C :: bm).contains (.ref C) = true := by simp
  have li := hi.keeps kept
  have lb := (hb (.ref (h.objs.size + 1))).keeps kept
  unfold isInstance
  repeat (first | with_reducible refine wpAny_loadPart_at there ?_ | (with_reducible refine wpAny_isSubtype_exc cls1 ?_; rw [own]) | wp_step)
  show wpAny _ _ (typeLookup (.ref C) _) _ _ _
  refine li.at (wpAny_holding (wpAny_bind (lb.at (wpAny_bind (wpAny_call (codeAny_mono hq fun r s' z => ?_))))))
  rcases r with e | (v | _ | _ | _) <;> first | exact z | exact z.elim | skip
  obtain ⟨rfl, z⟩ := z
  first
    | exact wpAny_pure (wpAny_pure z)
    | (wp_walk; exact z)
theorem kw_check_call {us : List Value} {kw : List (Str × Value)} {Q : Unit → Shared → Prop} (cls : h.get? C = some (excClassObj nm q C N bs bm hdct sn sub ab col dd k0 k1 k2 k3 k5 newId))
    (hq : Q () ⟨h, g, d, t, os⟩) : wpAny M A (checkBuiltinCall "type.__call__" ⟨.ref C :: us, kw⟩) Q E ⟨h, g, d, t, os⟩ := by
  have isTy : (⟨h, g, d, t, os⟩ : Shared).TypeIs (.ref C) "type" := ⟨_, cls, rfl⟩
  have stp := tc_sub
  simp only [checkBuiltinCall, tc_kind, tc_split]
  repeat (any_goals (first | assumption | with_reducible refine wpAny_loadPart_at cls ?_ | with_reducible refine wpAny_onRaise ?_ | with_reducible refine wpAny_map ?_ | wp_step))
theorem kw_call (F : ExcBaseFacts B newId initId bmB) (hT : ∀ Y : String, bm.contains (.type Y) = bmB.contains (.type Y)) {us : List Value} {kw : List (Str × Value)} {fi : Value}
    (cls : h.get? C = some (excClassObj nm q C N bs bm hdct sn sub ab col dd k0 k1 k2 k3 k5 newId))
    (hi : Looks (model prog w) h (typeLookup (.ref C) "__init__") (some fi)) (hb : ∀ me, Looks (model prog w) h (bindSpecial fi me) (fi, [me])) (hlen : us.length ≤ sizeLine)
    (hq : codeAny (model prog w) (A.under (.builtin "type.__call__" ⟨.ref C :: us, kw⟩)) (.call fi ⟨.ref (h.objs.size + 1) :: us, kw⟩) (InitBack (h.objs.size + 1) R) ⟨(h.push (kdv_tup us)).push (excO C h.objs.size), g, d, t, os⟩) :
    codeAny (model prog w) A (.call (.ref C) ⟨us, kw⟩) R ⟨h, g, d, t, os⟩ := by
  have look := tc_lookup
  have bind := tc_bind (.ref C)
  have isTy : (⟨h, g, d, t, os⟩ : Shared).TypeIs (.ref C) "type" := ⟨_, cls, rfl⟩
  refine codeAny_of_tree (show wpAny _ _ (callAny (.ref C) _) _ _ _ from ?_)
  repeat (any_goals (first | assumption | with_reducible refine wpAny_loadPart_at cls ?_ | wp_step))
  refine ⟨rfl, codeAny_call_builtin_at (Code.quiet_builtin _ (by decide +kernel)) entry_typeCall (kw_check_call cls (kw_type_call F hT cls hi hb hlen ?_))⟩
  refine codeAny_mono hq fun r s' z => ?_
  rcases r with e | (v | _ | _ | _) <;> exact z
end
end XK
end Loc

set_option Elab.async false
set_option linter.all false
set_option maxRecDepth 100000
set_option maxHeartbeats 4000000
/-! ### own errors made as values: by positions, by names, without values; what is asked of them -/
namespace Loc
open PySem PySem.Spec PyProof.Rows L2
section
variable {X : Cx} {k n : Nat} {fI C : Addr} {fd : FuncData} {ps ks : List Str} {sp : Sp} {x : Str} {p pos : Pos} {e : Expr} {es : List Expr} {kws : List Keyword} {t tk : TA} {g : List Value → List Value → List Value} {gV : List V → List V → List V}
/-- C(..), C's own __init__ keeping sp -/
def tErr (C : Addr) (n m : Nat) (sp : Sp) (gV : List V → List V → List V) (t tk : TA) : TE := fun σ H Q => t σ H fun vs H1 => tk σ H1 fun zs H2 => vs.length = n ∧ zs.length = m ∧ n ≤ 1000 ∧ ∀ a, H2 a = none →
  sp (gV (.ref a :: vs) zs) (upd H2 a (exo a C none)) (fun v H3 => v = .non ∧ Q (.ref a) H3) (fun _ _ _ => False)
theorem run_err {pins : List (Addr × Obj)} {σ : L2.St} {H : Hp} {s : Shared} {Q : VK} {us ws : List Value} {vs zs : List V} (T : OexC X.K C) (iC : PySem.W.findIn X.K (.ref C) "__init__" = some (some (.ref fI))) (tI : PySem.W.typeIn X.K (.ref fI) = some (.type "function"))
    (F1 : FnOk X.prog X.w X.K X.mg X.base CX0 k fI fd ps sp) (hr : Room (k + 1) X.A) (hb : KBn X.K fd ps (n + 1) ks g gV) (I : Inv X pins σ H s) (r : Vals vs us) (rz : Vals zs ws) (l1 : vs.length = n) (l2 : zs.length = ks.length) (ln : n ≤ 1000)
    (h : ∀ a, H a = none → sp (gV (.ref a :: vs) zs) (upd H a (exo a C none)) (fun v H2 => v = .non ∧ Q (.ref a) H2) (fun _ _ _ => False)) :
    wpAny (model X.prog X.w) X.A (call (.ref C) us (ks.zip ws)) (EP X pins σ Q) X.xe s := by
  obtain ⟨nm, q, N, bs, bm, sn, sub, ab, col, dd, k0, k1, k2, k3, k5, hC, hbm⟩ := T.cls
  obtain ⟨hp, gs, dr, tok, os⟩ := s
  have new2 : hp.objs.size ≤ hp.objs.size + 1 := Nat.le_succ _
  have hq := h (hp.objs.size + 1) (I.hok.fresh new2)
  have kept : ∀ b o, hp.get? b = some o → ((hp.push (PySem.W.kdv_tup us)).push (PySem.HandSPX.excO C hp.objs.size)).get? b = some o := fun b o z => Heap.get?_push_of_some _ (Heap.get?_push_of_some _ z)
  have there : ((hp.push (PySem.W.kdv_tup us)).push (PySem.HandSPX.excO C hp.objs.size)).get? (hp.objs.size + 1) = some (PySem.HandSPX.excO C hp.objs.size) := by heap_get
  have J : Inv X pins σ (upd H (hp.objs.size + 1) (exo (hp.objs.size + 1) C none)) ⟨(hp.push (PySem.W.kdv_tup us)).push (PySem.HandSPX.excO C hp.objs.size), gs, dr, tok, os⟩ :=
    I.laid (t' := tok) (a := hp.objs.size + 1) (o := exo (hp.objs.size + 1) C none) (h' := (hp.push (PySem.W.kdv_tup us)).push (PySem.HandSPX.excO C hp.objs.size)) kept new2 (exo_ok there)
  have r1 : Vals (V.ref (hp.objs.size + 1) :: vs) (Value.ref (hp.objs.size + 1) :: us) := .cons rfl r
  have r2 := hb.rel r1 rz
  have n1 : (Value.ref (hp.objs.size + 1) :: us).length = n + 1 := by rw [List.length_cons, ← r.length, l1]
  have lu : us.length ≤ sizeLine := by
    rw [← r.length, l1, sizeLine_eq]
    omega
  refine wpAny_call (XK.kw_call F.excBase_ValueError (fun Y => PySem.HandSPX.refsVE_contains Y bm hbm) (I.kIn _ _ hC) (PySem.W.looks_findIn I.kIn iC) (fun me => PySem.W.bind_fn I.kIn me tI) lu
    (codeAny_mono (F1.run _ X.stack _ _ ⟨Value.ref (hp.objs.size + 1) :: us, ks.zip ws⟩ (g (Value.ref (hp.objs.size + 1) :: us) ws) _ _ (fun _ _ _ => False) (hr.make C us (ks.zip ws)) (J.env0.make C us (ks.zip ws)) (hb.to _ _ ws J.kIn n1 (rz.length.symm.trans l2)) r2 hq) fun res s' hz => ?_))
  cases res with
  | error er => exact False.elim (show False from hz)
  | ok fl =>
    cases fl with
    | ret u =>
      obtain ⟨v, H3, J3, rv, ev, q3⟩ := J.after hz
      subst ev
      exact ⟨rv, ⟨V.ref (hp.objs.size + 1), H3, J3, rfl, q3⟩⟩
    | _ => exact False.elim hz
/-- C(e, ..) -/
theorem pe_err (T : OexC X.K C) (iC : PySem.W.findIn X.K (.ref C) "__init__" = some (some (.ref fI))) (tI : PySem.W.typeIn X.K (.ref fI) = some (.type "function")) (F1 : FnOk X.prog X.w X.K X.mg X.base CX0 k fI fd ps sp) (hr : Room (k + 1) X.A) (hb : KBn X.K fd ps (n + 1) [] g gV)
    (hg : Gl X x) (hm : X.mg x = some (.ref C)) (ha : PA X (e :: es) t) (nq : (x == ("__debug__" : Str)) = false := by decide) (he : starEach (e :: es) X.env = (false, eval e X.env) :: starEach es X.env := by rfl) (hpl : (backTo pos (starEach es X.env)).any (·.1) = false := by rfl) :
    PE X (.Call (.Name x p) (e :: es) [] pos) (tErr C n 0 sp gV t tNil) := by
  refine ⟨fun pins s σ H Q I h => wpAny_Call_Name_kw (ld_glob I hg hm ?_ nq)⟩
  refine PySem.W.callWith_K (h₀ := X.base) I.ok.mod.kin T.kC (thn (ha.run pos pins s σ H _ I h) fun us s1 ⟨vs, H1, I1, r1, l1, l2, ln, q1⟩ => ⟨I1.kIn, ?_⟩) he hpl
  exact run_err (ws := []) (zs := []) T iC tI F1 hr hb I1 r1 .nil l1 l2 ln q1
/-- C(k = e, ..) -/
theorem pe_errK (T : OexC X.K C) (iC : PySem.W.findIn X.K (.ref C) "__init__" = some (some (.ref fI))) (tI : PySem.W.typeIn X.K (.ref fI) = some (.type "function")) (F1 : FnOk X.prog X.w X.K X.mg X.base CX0 k fI fd ps sp) (hr : Room (k + 1) X.A) (hb : KBn X.K fd ps 1 ks g gV)
    (hg : Gl X x) (hm : X.mg x = some (.ref C)) (hkw : PK X kws tk) (hall : (backToKw pos (keywordEach kws X.env)).all (·.1.isSome) = true := by rfl) (hks : (backToKw pos (keywordEach kws X.env)).filterMap (·.1) = ks := by rfl)
    (nq : (x == ("__debug__" : Str)) = false := by decide) (hpl : ((backTo pos (starEach [] X.env)).any (·.1) || (backToKw pos (keywordEach kws X.env)).any (·.1.isNone)) = false := by rfl) :
    PE X (.Call (.Name x p) [] kws pos) (tErr C 0 ks.length sp gV tNil tk) := by
  refine ⟨fun pins s σ H Q I h => wpAny_Call_Name_kw (ld_glob I hg hm ?_ nq)⟩
  refine PySem.W.callWith_KW0 (h₀ := X.base) I.ok.mod.kin T.kC hall (thn (hkw.run pos pins s σ H _ I h) fun ws s2 ⟨zs, H2, I2, rz, l1, l2, ln, q2⟩ => ⟨I2.kIn, ?_⟩) hpl
  rw [hks]
  exact run_err (us := []) (vs := []) T iC tI F1 hr hb I2 .nil rz l1 l2 ln q2
/-- C(), ValueError's __init__ -/
def tErr0 (C : Addr) : TE := fun _ H Q => ∀ a, H a = none → Q (.ref a) (upd H a (exo a C none))
theorem pe_err0 (T : OexC X.K C) (iC : PySem.W.findIn X.K (.ref C) "__init__" = some (some (.builtin "ValueError.__init__"))) (hg : Gl X x) (hm : X.mg x = some (.ref C)) (nq : (x == ("__debug__" : Str)) = false := by decide) : PE X (.Call (.Name x p) [] [] pos) (tErr0 C) := by
  refine ⟨fun pins s σ H Q I h => wpAny_Call_Name_kw (ld_glob I hg hm ?_ nq)⟩
  refine PySem.W.callWith_K0 I.kIn T.kC ?_
  obtain ⟨nm, q, N, bs, bm, sn, sub, ab, col, dd, k0, k1, k2, k3, k5, hC, hbm⟩ := T.cls
  obtain ⟨hp, gs, dr, tok, os⟩ := s
  have new2 : hp.objs.size ≤ hp.objs.size + 1 := Nat.le_succ _
  have hq := h (hp.objs.size + 1) (I.hok.fresh new2)
  have kept : ∀ b o, hp.get? b = some o → ((hp.push (PySem.W.kdv_tup [])).push (PySem.HandSPX.excO C hp.objs.size)).get? b = some o := fun b o z => Heap.get?_push_of_some _ (Heap.get?_push_of_some _ z)
  have there : ((hp.push (PySem.W.kdv_tup [])).push (PySem.HandSPX.excO C hp.objs.size)).get? (hp.objs.size + 1) = some (PySem.HandSPX.excO C hp.objs.size) := by heap_get
  have J : Inv X pins σ (upd H (hp.objs.size + 1) (exo (hp.objs.size + 1) C none)) ⟨(hp.push (PySem.W.kdv_tup [])).push (PySem.HandSPX.excO C hp.objs.size), gs, dr, tok, os⟩ :=
    I.laid (t' := tok) (a := hp.objs.size + 1) (o := exo (hp.objs.size + 1) C none) (h' := (hp.push (PySem.W.kdv_tup [])).push (PySem.HandSPX.excO C hp.objs.size)) kept new2 (exo_ok there)
  refine wpAny_call (XK.kw_call (kw := []) F.excBase_ValueError (fun Y => PySem.HandSPX.refsVE_contains Y bm hbm) (I.kIn _ _ hC) (PySem.W.looks_findIn I.kIn iC) (fun me => by rw [F.excBase_ValueError.init.bind me]; exact .now) (Nat.zero_le _)
    (PySem.HandSPX.init_base F.excBase_ValueError (fun Y => PySem.HandSPX.refsVE_contains Y bm hbm) (kept _ _ (I.kIn _ _ hC)) there (Nat.zero_le _) fun h' t1 k2' hx => ⟨rfl, ?_⟩))
  have J2 := J.write (t' := tok) (x := hp.objs.size + 1) (e := hp.objs.size + 1) (o := exo (hp.objs.size + 1) C none) (by rw [upd_same]; exact True.intro) (.inl rfl) k2' ⟨_, hx⟩ (exo_ok hx)
  have same : upd (upd H (hp.objs.size + 1) (exo (hp.objs.size + 1) C none)) (hp.objs.size + 1) (exo (hp.objs.size + 1) C none) = upd H (hp.objs.size + 1) (exo (hp.objs.size + 1) C none) := by
    funext b
    by_cases hb : b = hp.objs.size + 1
    · rw [hb, upd_same, upd_same]
    · rw [upd_ne hb]
  rw [same] at J2
  exact ⟨V.ref (hp.objs.size + 1), _, J2, rfl, hq⟩
end
/-! what is asked of such an error -/
/-- such an error stands at a -/
def Ex (H : Hp) (a C : Addr) (fs : List (Str × V)) : Prop := ∃ d, H a = some (exo a C (some d)) ∧ H d = some (exd d fs)
def Ex0 (H : Hp) (a C : Addr) : Prop := H a = some (exo a C none)
theorem Ex.same {H H' : Hp} {a C : Addr} {fs : List (Str × V)} (h : Ex H a C fs) (s : Same H H') : Ex H' a C fs := let ⟨d, e1, e2⟩ := h; ⟨d, s _ _ e1, s _ _ e2⟩
def ExA (H : Hp) (a C : Addr) : Prop := Ex0 H a C ∨ ∃ fs, Ex H a C fs
theorem ExA.same {H H' : Hp} {a C : Addr} (h : ExA H a C) (s : Same H H') : ExA H' a C := h.imp (fun h => s _ _ h) fun ⟨fs, h⟩ => ⟨fs, h.same s⟩
section
variable {X : Cx} {pins : List (Addr × Obj)} {σ : L2.St} {H : Hp} {s : Shared} {a C : Addr} {fs : List (Str × V)}
theorem Ex.inst (I : Inv X pins σ H s) (h : Ex H a C fs) : ∃ oe od, PySem.W.InstAt s.heap a oe C (some od) ∧ ∀ n v, fs.lookup n = some v → ∃ u, PySem.W.lookIn n od = some (some u) ∧ RelV v u := by
  obtain ⟨d, e1, e2⟩ := h
  obtain ⟨t1, g1⟩ := exo_at I.hok e1
  obtain ⟨mA, ns, rel⟩ := exd_at I.hok e2
  obtain ⟨od, ho, hl⟩ := lookIn_ns ns
  refine ⟨_, od, ⟨g1, rfl, rfl, ho⟩, fun n v e => ?_⟩
  obtain ⟨u, hu, ru⟩ := RelO.some_of (v := v) (o := mA n) (by rw [← e]; exact rel n)
  exact ⟨u, by rw [hl, hu], ru⟩
theorem ExA.inst (I : Inv X pins σ H s) (h : ExA H a C) : ∃ oe od, PySem.W.InstAt s.heap a oe C od := by
  rcases h with h | ⟨fs, h⟩
  · obtain ⟨t1, g1⟩ := exo_at I.hok h
    exact ⟨_, none, g1, rfl, rfl, True.intro⟩
  · obtain ⟨oe, od, J, _⟩ := h.inst I
    exact ⟨oe, some od, J⟩
/-- isinstance(e, c) -/
def rIsX (K : PySem.W.Frag) : List V → Hp → VK → Prop := fun xs H Q => ∃ (a C : Addr) (c : V) (cv : Value) (b : Bool), xs = [.ref a, c] ∧ ExA H a C ∧ ErrC K C ∧ ClsV c cv ∧ PySem.W.kitOne K (.ref C) cv = some b ∧ Q (.bl b) H
theorem call_isX : CallR X (.builtin "isinstance") (rIsX X.K) := by
  intro pins s σ H xs us Q I r h
  obtain ⟨a, C, c, cv, b, rfl, he, k, hc, e, q⟩ := h
  obtain ⟨u1, u2, rfl, r1, r2⟩ := vals2 r
  have e2 := hc.eq r2
  subst e2
  cases (show u1 = Value.ref a from r1)
  obtain ⟨oe, od, J⟩ := he.inst I
  exact PySem.W.kia_one (PySem.W.kitx_exc k.cl k.ga k.gg k.sub k.at_ k.get k.tak k.mro) I.kIn J e (fun z => nomatch z) fun tk => ⟨.bl b, H, I.tok tk, rfl, q⟩
/-- isinstance(e, (c1, c2, ..)) -/
def rIsXT (K : PySem.W.Frag) : List V → Hp → VK → Prop := fun xs H Q => ∃ (a C tp : Addr) (cs : List V) (cvs : List Value) (b : Bool), xs = [.ref a, .ref tp] ∧ ExA H a C ∧ ErrC K C ∧ H tp = some (.tup cs) ∧ Paired ClsV cs cvs ∧ PySem.W.kitAny K (.ref C) cvs = some b ∧ Q (.bl b) H
theorem call_isXT : CallR X (.builtin "isinstance") (rIsXT X.K) := by
  intro pins s σ H xs us Q I r h
  obtain ⟨a, C, tp, cs, cvs, b, rfl, he, k, hT, hc, e, q⟩ := h
  obtain ⟨u1, u2, rfl, r1, r2⟩ := vals2 r
  cases (show u1 = Value.ref a from r1)
  cases (show u2 = Value.ref tp from r2)
  obtain ⟨oe, od, J⟩ := he.inst I
  have kT : ObjOk X.prog X.w H s.heap tp (.tup cs) := I.hok tp _ hT
  obtain ⟨_, its, rv, o, h1, h2, n, h3⟩ := kT
  have e3 := ClsV.all hc rv
  subst e3
  obtain ⟨oc, od', dt, sl⟩ := o
  simp only at h2 h3
  subst h2 h3
  exact PySem.W.kia_tup (PySem.W.kitx_exc k.cl k.ga k.gg k.sub k.at_ k.get k.tak k.mro) I.kIn J h1 e (fun z => nomatch z) fun tk => ⟨.bl b, H, I.tok tk, rfl, q⟩
/-- e.f -/
def tExF (K : PySem.W.Frag) (f : Str) (te : TE) : TE := fun σ H Q => te σ H fun x H1 => ∃ (a C : Addr) (fs : List (Str × V)) (v : V), x = .ref a ∧ Ex H1 a C fs ∧ ErrC K C ∧ PySem.W.findIn K (.ref C) f = some none ∧ fs.lookup f = some v ∧ Q v H1
theorem pe_exf {e : Expr} {te : TE} {pos : Pos} {n : Str} (he : PE X e te) (hb : attributeBase e n X.env (eval e X.env) = eval e X.env := by rfl) : PE X (.Attribute e n pos) (tExF X.K n te) := by
  constructor
  intro pins s σ H Q I h
  refine attr_of hb (thn (he.run pins s σ H _ I h) fun u s1 hu => ?_)
  obtain ⟨x, H1, I1, rx, a, C, fs, v, rfl, hE, k, hno, hl, q⟩ := hu
  cases (show u = Value.ref a from rx)
  obtain ⟨oe, od, J, look⟩ := hE.inst I1
  obtain ⟨u, hu, ru⟩ := look n v hl
  exact HandSPX.exc_get I1.kIn J k.ga k.gg k.sub (PySem.W.findObj_own k.hd hno rfl hu) (handed_of ru) ⟨v, H1, I1.tok _, ru, q⟩
end
/-! bindings -/
section
variable {K : PySem.W.Frag} {x qual : Str} {st : Stmt} {f : Addr} {fd : FuncData} {ps : List Str}
def gA {α : Type} (us ws : List α) : List α := us ++ ws
def gB {α : Type} (us ws : List α) : List α := us ++ ws.reverse
theorem vals_rev : ∀ {vs : List V} {us : List Value}, Vals vs us → Vals vs.reverse us.reverse
  | _, _, .nil => .nil
  | _, _, .cons h t => by
    rw [List.reverse_cons, List.reverse_cons]
    exact (vals_rev t).append (.cons h .nil)
theorem fun_kbnA (F : Fun K x qual st f fd) (n : Nat) (ks : List Str) (h : ∀ (kV doc pm : Value) (an : Option Addr) (cdv ct : Value) (us ws : List Value), us.length = n → ws.length = ks.length →
    bindArgs (PySem.W.fnOf x qual (defArgs st) (defBody st) (defScope st) .none kV doc pm an cdv ct) ⟨us, ks.zip ws⟩ = pure (ps.zip (gA us ws))) : KBn K fd ps n ks gA gA := by
  obtain ⟨oc, od, kV, doc, pm, an, cdv, ct, osl, rfl, lk, hcd⟩ := F.ex
  exact ⟨fun s us ws _ l1 l2 => .of_eq (h kV doc pm an cdv ct us ws l1 l2), fun r rz => r.append rz⟩
theorem fun_kbnB (F : Fun K x qual st f fd) (n : Nat) (ks : List Str) (h : ∀ (kV doc pm : Value) (an : Option Addr) (cdv ct : Value) (us ws : List Value), us.length = n → ws.length = ks.length →
    bindArgs (PySem.W.fnOf x qual (defArgs st) (defBody st) (defScope st) .none kV doc pm an cdv ct) ⟨us, ks.zip ws⟩ = pure (ps.zip (gB us ws))) : KBn K fd ps n ks gB gB := by
  obtain ⟨oc, od, kV, doc, pm, an, cdv, ct, osl, rfl, lk, hcd⟩ := F.ex
  exact ⟨fun s us ws _ l1 l2 => .of_eq (h kV doc pm an cdv ct us ws l1 l2), fun r rz => r.append (vals_rev rz)⟩
end
end Loc

set_option Elab.async false
set_option linter.all false
set_option maxRecDepth 100000
namespace Loc
open PySem PySem.Spec PyProof.Rows L2 LamX
theorem takes_len {X : Cx} {W : WX} {n : Nat} (hn : X.N.length = n) (tk : Takes X W) : Takes X (fun cls d σ H => σ.length = n → W cls d σ H) := fun u s' ⟨a, B, sI, pins, σ, H, cls, d, e, I, nb, up, sky, na, os, ag, w⟩ =>
  tk u s' ⟨a, B, sI, pins, σ, H, cls, d, e, I, nb, up, sky, na, os, ag, w (I.len.trans hn)⟩
/-- all but p and the tables of code objects stays -/
def BT (p : Addr) (H H' : Hp) : Prop := ∀ b o, b ≠ p → H b = some o → (∀ ps, o ≠ .tbl ps) → H' b = some o
theorem BT.of {p : Addr} {H H' : Hp} (h : But p H H') : BT p H H' := fun b o n e _ => h b o n e
theorem BT.ext {p : Addr} {H H' : Hp} (h : ExtN H H') : BT p H H' := fun b o _ e t => h b o e t
theorem BT.trans {p : Addr} {H H1 H2 : Hp} (a : BT p H H1) (b : BT p H1 H2) : BT p H H2 := fun c o n e t => b c o n (a c o n e t) t
theorem BT.sql {p a : Addr} {K : PySem.W.Frag} {H H' : Hp} {xs : List V} (e : BT p H H') (n : a ≠ p) (h : SqL K H a xs) : SqL K H' a xs := by
  rcases h with (h | ⟨o, h⟩) | h
  · exact .inl (.inl (e _ _ n h (fun _ z => by cases z)))
  · exact .inl (.inr ⟨o, e _ _ n h (fun _ z => by cases z)⟩)
  · exact .inr h
theorem ext_sqt {K : PySem.W.Frag} {H H' : Hp} {a : Addr} {xs : List V} (e : ExtN H H') (h : SqT K H a xs) : SqT K H' a xs := by
  rcases h with (h | ⟨o, h⟩) | h
  · exact .inl (.inl (e _ _ h (fun _ z => by cases z)))
  · exact .inl (.inr ⟨o, e _ _ h (fun _ z => by cases z)⟩)
  · exact .inr h
theorem ext_tups {K : PySem.W.Frag} {H H' : Hp} (e : ExtN H H') : Tups K H H' := fun a xs h => ext_sqt e h
theorem ext_pot {H H' : Hp} (e : ExtN H H') {p : Addr} {c : Nat} (h : Pot H p c) : Pot H' p c := by
  obtain ⟨o, e1, a, b, z, rfl, r⟩ := h
  exact ⟨_, e _ _ e1 (fun _ q => by cases q), a, b, z, rfl, r⟩
theorem ext_same {H H' : Hp} (e : Same H H') : ExtN H H' := fun b o h _ => e b o h
theorem tabs_but {T : List (Addr × Str)} {p : Addr} {H H' : Hp} {c : Nat} (t : Tabs T H) (e : But p H H') (hp : Pot H p c) : Tabs T H' := fun x hx => by
  obtain ⟨ps, h1, h2, h3⟩ := t x hx
  obtain ⟨o, ho, own, mix, cnt, rfl, _⟩ := hp
  refine ⟨ps, e _ _ (fun z => by rw [z, ho] at h1; cases h1) h1, h2, fun pos cv hc => ?_⟩
  obtain ⟨k, e1, e2⟩ := h3 pos cv hc
  exact ⟨k, e1, e _ _ (fun z => by rw [z, ho] at e2; cases e2) e2⟩
theorem tabs_same {T : List (Addr × Str)} {H H' : Hp} (t : Tabs T H) (e : Same H H') : Tabs T H' := t.ext e
end Loc
namespace Loc
open PySem PySem.Spec PyProof.Rows L2 LamX
section
variable {P : Program} {w : World} {K : PySem.W.Frag} {mg : Str → Option Value} {base : Heap} {CX : CXT} {k : Nat} {f : Addr} {fd : FuncData} {ps : List Str} {sp : Sp}
/-- as fun_okG, the code object known -/
theorem fun_okGC {x qual : Str} {st : Stmt} {N : List Str} {c : Addr} (F : Fun K x qual st f fd) (code : fd.code = .ref c) (S : FnScope N ps (defScope st)) (len : ∀ vs H Q E, sp vs H Q E → vs.length = ps.length)
    (hb : ∀ (A : Around) (out : List Env) (s : Shared) (H : Hp) (vs : List V) (Q : VK) (E : XK), A.guards = some [] → Room k (A.deeper (envOfC qual (defScope st) s.heap.objs.size f (.ref c))) → sp vs H Q E →
      ∃ t, PSs (cxOf CX P w K mg base N qual (defScope st) f (.ref c) A out s H E).nox (defBody st) t ∧ t { nx := fun _ H' => Q .non H', rt := Q } (L2.start N vs) H) :
    FnG P w K mg base CX (k + 1) f fd ps sp := by
  obtain ⟨⟨oc, od, kV, doc, pm, an, cdv, ct, osl, e, lk, hcd⟩, kp⟩ := F
  have e1 : cdv = .ref c := by
    rw [e] at code
    exact code
  subst e1
  refine ⟨fun h => len _ _ _ _ h, fun {A out s H ar us vs Q E} hg hr e0 hbd r hsp => ?_⟩
  subst e
  refine run_ofS lk hcd S hr e0 hbd r (len _ _ _ _ hsp) fun hr' => ?_
  obtain ⟨t, ht, hq⟩ := hb A out s H vs Q E hg hr' hsp
  exact ⟨t, ht.nox, hq⟩
end
end Loc

set_option Elab.async false
set_option linter.all false
set_option maxRecDepth 100000
/-! ### a lambda handed to a def of two parameters, the second a text -/
namespace Loc
open PySem PySem.Spec PyProof.Rows L2 LamX
section
variable {X : Cx} {pins : List (Addr × Obj)} {σ : L2.St} {H : Hp} {s : Shared}
/-- the lambda's call by its name; what it lets out is taken at the very locals of the call -/
theorem pe_actS {fn : Str} {sc : Scope} {ga lf lc : Addr} {Ng : List Str} {cg m0 t0 : Value} {prm : Arguments} {body : Expr} {scope : Scope} {k i : Nat} {par : Str} {pin : List (Addr × Obj)} {ex : Value → Shared → Prop} {W : WX} {E : XK} {tb : TE} {pa pb : Pos} {st : L2.St}
    (I : Inv X pins σ H s) (L : LamS X.env.scope scope) (fo : s.heap.get? lf = some (PySem.W.kla_obj "<lambda>" (X.env.qual ++ "<lambda>") prm body scope (cloFrom X.env.cells scope.names []) m0 lc t0)) (fnew : H lf = none) (nofr : lf ∉ frs X.stack)
    (bnd : bindArgs (PySem.W.kla_fn "<lambda>" (X.env.qual ++ "<lambda>") prm body scope (cloFrom X.env.cells scope.names []) m0 (.ref lc) t0) ⟨[], []⟩ = pure [])
    (tk : Takes ((cxOf CX0 X.prog X.w X.K X.mg X.base Ng fn sc ga cg X.A X.stack s H E0).tr pin ex) W) (hW : ∀ cls d H', E cls d H' → W cls d st H') (room : Room (k + 1) (X.A.deeper (envOfC fn sc s.heap.objs.size ga cg)))
    (hbody : ∀ (A : Around) (outer : List Env) (s : Shared) (H : Hp), Room k (A.deeper (lamEnv X scope s.heap.objs.size lf lc)) → PE (lamCx X A outer s H E scope lf lc) body tb)
    (hN : Ng[i]? = some par) (vis : Vis sc par) (n1 : (par == ("__debug__" : Str)) = false := by decide) (n2 : (par == ("__classdict__" : Str)) = false := by decide) :
    PE ((cxOf CX0 X.prog X.w X.K X.mg X.base Ng fn sc ga cg X.A X.stack s H E0).tr pin ex) (.Call (.Name par pa) [] [] pb) (fun sz hz q => sz = st ∧ sz[i]? = some (some (.ref lf)) ∧ hz lc = some (CodeO lc (X.env.qual ++ "<lambda>")) ∧ tb σ hz q) := by
  constructor
  rintro pz sz σz Hz q Iz ⟨est, h1, h2, h3⟩
  subst est
  refine wpAny_Call_Name_kw (thn ((pe_var (pos := pa) (i := i) hN vis n1 n2).run pz sz σz Hz (fun v Hn => v = .ref lf ∧ Hn = Hz) Iz ⟨.ref lf, h1, rfl, rfl⟩) fun u sn ⟨v, Hn, J, rv, ev, eH⟩ => ?_)
  subst ev eH
  have eu : u = Value.ref lf := rv
  subst eu
  have there : sn.heap.get? lf = some _ := J.base.keep lf _ fo fnew nofr fun z => nomatch (show lf ∈ ([] : List Addr) from z)
  refine PySem.W.callWith_F0 ⟨_, _, _, _, there⟩ ?_
  obtain ⟨⟨oc, vs, tk0, g1, g2, g3⟩, _, _⟩ := J.hok lc _ h2
  have runs : codeAny (model X.prog X.w) (X.A.deeper (envOfC fn sc s.heap.objs.size ga cg)) (.call (.ref lf) ⟨[], []⟩) (CR (L2.CX X.prog X.w) (envOfC fn sc s.heap.objs.size ga cg :: X.stack) X.prog X.w Hn sn q E) sn := by
    refine PySem.W.kla_callFunE room.depth there rfl L.co L.gen rfl ⟨lc, oc, vs, tk0, rfl, g1, g2, g3⟩ ?_
    rw [bnd]
    refine wpAny_pure (wpAny_newFunctionEnv (fun y hy => (L.own y hy).2) (fun y hy => absurd hy (by simp)) (fun hh hns hsb => ⟨J.nolimit.fresh _ hsb, ?_⟩) L.kind)
    have kept : ∀ b o, sn.heap.get? b = some o → hh.get? b = some o := fun b o e => hsb.extBut b o (Nat.ne_of_lt (Heap.lt_size e)) (Heap.get?_push_of_some _ e)
    have J2 : Inv (lamCx X (X.A.deeper (envOfC fn sc s.heap.objs.size ga cg)) (envOfC fn sc s.heap.objs.size ga cg :: X.stack) sn Hn E scope lf lc) [] σ Hn { sn with heap := hh, toks := sn.toks + ([] : List (Str × Value)).length } :=
      lam_start2 I L J.env0 room.hd (show Un (frs X.stack) [] H Hn s.heap sn.heap from J.base) hns kept
    refine PySem.W.kla_codeExpr (wpAny_mono ((hbody _ _ sn Hn (room.deeper _)).run [] _ _ Hn q J2 h3) (fun v s' hq => ?_) fun e s' hq => hq)
    obtain ⟨w', H', J', rv, q'⟩ := hq
    exact ⟨w', H', J'.os, J'.bare, J'.base, J'.hok, rv, q'⟩
  refine wpAny_call (codeAny_mono runs fun res s' hq => ?_)
  cases res with
  | error err => exact tk err s' (XE.of_call J hW hq)
  | ok fl =>
    cases fl with
    | ret u => exact J.after hq
    | _ => exact False.elim hq
end
/-- the def that calls what it got first; what it got second is the text wd -/
def GivesTwo (X : Cx) (nms : List Str) (fn : Str) (sc : Scope) (ga : Addr) (cg : Value) (bd : List Stmt) (par ql wd : Str) (M : (XK → Hp → VK → Prop) → Hp → VK → Prop) : Prop :=
  ∀ (lf lc : Addr) (sh : Shared) (hp : Hp) (R : VK) (rd : XK → Hp → VK → Prop),
    (∀ (st0 : L2.St) (W : WX) (pin : List (Addr × Obj)) (ex : Value → Shared → Prop) (E : XK) (pa pb : Pos), Takes ((cxOf CX0 X.prog X.w X.K X.mg X.base nms fn sc ga cg X.A X.stack sh hp E0).tr pin ex) W →
      (∀ cls d H', E cls d H' → W cls d st0 H') →
      PE ((cxOf CX0 X.prog X.w X.K X.mg X.base nms fn sc ga cg X.A X.stack sh hp E0).tr pin ex) (.Call (.Name par pa) [] [] pb) (fun st hz q => st = st0 ∧ st[0]? = some (some (.ref lf)) ∧ hz lc = some (CodeO lc ql) ∧ rd E hz q)) →
    hp lc = some (CodeO lc ql) → M rd hp R →
    ∃ t, PSs (cxOf CX0 X.prog X.w X.K X.mg X.base nms fn sc ga cg X.A X.stack sh hp E0).nox bd t ∧ t { nx := fun _ H' => R .non H', rt := R } (L2.start nms [.ref lf, .str wd]) hp
section
variable {X : Cx}
/-- x(lambda: body, "wd") -/
theorem pe_lamtwo {T : List (Addr × Str)} {M : (XK → Hp → VK → Prop) → Hp → VK → Prop} {x a b wd : Str} {g c Pt : Addr} {k : Nat} {pg : Arguments} {bg : List Stmt} {sg : Scope} {dV kV doc pm cdv ct oc : Value} {an od : Option Addr} {osl : Array (Option Value)} {Ng : List Str}
    {params : Arguments} {body : Expr} {scope : Scope} {t : XK → TE} {p lpos pos cpos : Pos} {j : Nat} (hg : Gl X x) (hm : X.mg x = some (.ref g)) (hk : PySem.W.keepIn X.K (.ref g) = true)
    (hlk : X.K.lookup g = some ⟨oc, od, .func (PySem.W.fnOf x x pg bg sg dV kV doc pm an cdv ct), osl⟩) (hcg : PySem.W.codeIn X.K cdv x = true) (hb : L2.Binds X.K (PySem.W.fnOf x x pg bg sg dV kV doc pm an cdv ct) [a, b] [])
    (Sg : FnScope Ng [a, b] sg) (hNg : Ng[0]? = some a) (hva : Vis sg a) (hG : GivesTwo X Ng x sg g cdv bg a (X.env.qual ++ "<lambda>") wd M)
    (TB : TabB X.base X.mg c Pt) (hcode : X.env.code = .ref c) (hmT : (Pt, X.env.qual ++ "<lambda>") ∈ T) (hu : ∀ p ∈ T, p.1 = Pt → p.2 = X.env.qual ++ "<lambda>") (hr : Room (k + 2) X.A) (L : LamS X.env.scope scope)
    (hdef : defaultsOf params X.env = ([], []))
    (hbind : ∀ (q : Str) (cl : List (Str × Addr)) (m1 c1 c2 : Value), bindArgs (PySem.W.kla_fn "<lambda>" q params body scope cl m1 c1 c2) ⟨[], []⟩ = pure [])
    (hbody : ∀ (A : Around) (outer : List Env) (s : Shared) (H : Hp) (E : XK) (f lc : Addr), Room k (A.deeper (lamEnv X scope s.heap.objs.size f lc)) → PE (lamCx X A outer s H E scope f lc) body (t E))
    (nq1 : (x == ("__debug__" : Str)) = false := by decide) (nq2 : (a == ("__debug__" : Str)) = false := by decide) (nq3 : (a == ("__classdict__" : Str)) = false := by decide) :
    PE X (.Call (.Name x p) [.Lambda params body scope lpos, .Constant (.str wd) j cpos] [] pos) (tLam T M t) := by
  refine ⟨fun pins s σ H Q I h => ?_⟩
  obtain ⟨hT, h⟩ := h
  refine wpAny_Call_Name_kw (ld_glob I hg hm (PySem.W.callWith_K (h₀ := X.base) I.ok.mod.kin hk ?_ (by rfl) (by rfl)) nq1)
  show wpAny _ _ (spliced [(false, eval (.Lambda params body scope lpos) X.env), (false, eval (.Constant (.str wd) j cpos) X.env)]) _ _ s
  refine Calls.spliced_cons (lam_make2 I TB hcode hmT hu hT hdef (L.has I.ok) fun f lc m2 c2 H1 s1 I1 eN T1 hf hfn hfr hco => ?_)
  refine Calls.spliced_cons (Calls.Constant_str (Calls.spliced_nil ⟨(I1.tok _).kIn, ?_⟩))
  have runs : codeAny (model X.prog X.w) X.A (.call (.ref g) ⟨[.ref f, .str wd s1.toks], []⟩) (CR CX0 X.stack X.prog X.w H1 { s1 with toks := s1.toks + 1 } Q E0) { s1 with toks := s1.toks + 1 } := by
    refine run_ofS (N := Ng) (ps := [a, b]) (us := [.ref f, .str wd s1.toks]) (vs := [.ref f, .str wd]) hlk hcg Sg hr (I1.tok _).env0 (hb { s1 with toks := s1.toks + 1 } [.ref f, .str wd s1.toks] (I1.tok _).kIn rfl) (.cons rfl (.cons ⟨_, rfl⟩ .nil)) rfl fun hr' => ?_
    obtain ⟨t', ht', hq'⟩ := hG f lc { s1 with toks := s1.toks + 1 } H1 Q (fun E H' Q' => t E σ H' Q')
      (fun st W pn xe E p1 p2 tk hW => pe_actS (i := 0) (I1.tok (s1.toks + 1)) L hf hfn hfr (hbind _ _ _ _ _) tk hW hr' (fun A outer s H hr2 => hbody A outer s H E f lc hr2) hNg hva nq2 nq3) hco (h H1 eN T1)
    exact ⟨t', ht'.nox, hq'⟩
  refine wpAny_call (codeAny_mono runs fun res s2 hq => ?_)
  cases res with
  | error err => exact False.elim (show False from hq)
  | ok fl =>
    cases fl with
    | ret u => exact (I1.tok _).after hq
    | _ => exact False.elim hq
end
end Loc

set_option Elab.async false
set_option linter.all false
set_option maxRecDepth 100000
/-! ### own classes: len of an instance, methods called with keywords -/
namespace Loc
open PySem PySem.Spec PyProof.Rows L2
theorem ins_at {P : Program} {w : World} {H : Hp} {h : Heap} {a C dx : Addr} {fs : List (Str × V)} (hk : HOk P w H h) (e : H a = some (.ins C dx fs)) : ∃ oe od, PySem.W.InstAt h a oe C (some od) := by
  obtain ⟨_, _, _, g, mA, ns, _⟩ := hk a _ e
  obtain ⟨od, ho, _⟩ := lookIn_ns ns
  exact ⟨_, od, g, rfl, rfl, ho⟩
section
variable {X : Cx} {k : Nat} {C f : Addr} {fd : FuncData} {ps : List Str} {sp : Sp}
/-- len of an instance with its own __len__ -/
theorem call_lenOwn (hf : PySem.W.findIn X.K (.ref C) "__len__" = some (some (.ref f))) (ti : PySem.W.typeIn X.K (.ref f) = some (.type "function")) (F : FnOk X.prog X.w X.K X.mg X.base CX0 k f fd ps sp) (hr : Room (k + 1) X.A) (hb : Binds X.K fd ps []) :
    CallR X (.builtin "len") (fun xs H Q => ∃ a dx fs, xs = [.ref a] ∧ H a = some (.ins C dx fs) ∧ sp [.ref a] H (fun v H' => ∃ n : Nat, v = .int n ∧ n < 2 ^ 63 ∧ Q (.int n) H') E0) := by
  intro pins s σ H xs us Q I r h
  obtain ⟨a, dx, fs, rfl, hi, hsp⟩ := h
  obtain ⟨u, rfl, ru⟩ := r.one
  cases (show u = Value.ref a from ru)
  obtain ⟨oe, od, J⟩ := ins_at I.hok hi
  refine PySem.Calls.call_function_entry PySem.kind_len PySem.plain_len PySem.entry_len (PySem.args_len1 _) ?_
  have E1 := I.env0.in1
  have R1 := hr.in1
  have runs := F.run X.A.in1 X.stack s H ⟨[.ref a], []⟩ [.ref a] [.ref a] _ E0 R1 E1 (hb s [.ref a] I.kIn (F.len _ _ _ _ hsp)) r hsp
  unfold Builtin.len
  show wpAny _ _ (callSpecial? (.ref a) "__len__" >>= _) _ _ _
  refine wpAny_bind (PySem.W.special_fn I.kIn J hf ti (wpAny_call (codeAny_mono runs fun res s' hq => ?_)))
  cases res with
  | error err => exact False.elim (show False from hq)
  | ok fl =>
    cases fl with
    | ret u =>
      obtain ⟨v, H', J', rv, n, rfl, hn, q⟩ := I.after hq
      obtain ⟨tk, rfl⟩ := rv
      refine wpAny_bind (wpAny_holding (show wpAny _ _ (pure (n : Int)) _ _ _ from wpAny_pure (wpAny_bind (wpAny_letGo ?_))))
      show wpAny _ _ (if ((n : Int)) < 0 then _ else _) _ _ _
      rw [if_neg (by omega)]
      show wpAny _ _ (if ((n : Int)) ≥ 2 ^ 63 then _ else _) _ _ _
      rw [if_neg (by omega)]
      refine wpAny_bind (wpAny_mkInt ?_)
      exact wpAny_pure ⟨_, rfl, .int n, H', J'.tok _, ⟨_, rfl⟩, q⟩
    | _ => exact False.elim hq
end
section
variable {X : Cx} {CX : CXT} {k n : Nat} {C f : Addr} {fd : FuncData} {ps ks : List Str} {sp : Sp} {E : XK} {m : Str} {pos apos : Pos} {o e : Expr} {es : List Expr} {kws : List Keyword} {ta : TE} {t tk : TA} {g : List Value → List Value → List Value} {gV : List V → List V → List V} {pl : Sem Bool}
/-- o.m(.., k = e, ..) -/
def tMethK (C : Addr) (m : Str) (n nk : Nat) (sp : Sp) (gV : List V → List V → List V) (E : XK) (ta : TE) (t tk : TA) : TE := fun σ H Q => ta σ H fun x H1 => ∃ a dx fs, x = .ref a ∧ H1 a = some (.ins C dx fs) ∧ fs.lookup m = none ∧
  t σ H1 fun vs H2 => tk σ H2 fun zs H3 => vs.length + 1 = n ∧ zs.length = nk ∧ sp (gV (.ref a :: vs) zs) H3 Q E
theorem pe_methK (ho : PE X o ta) (c : Cls X.K C) (hm : Meth X.K C m f) (F : FnOk X.prog X.w X.K X.mg X.base CX k f fd ps sp) (hr : Room k X.A) (hb : KBn X.K fd ps n ks g gV) (hx : Passes CX X E) (ha : PA X (e :: es) t) (hkw : PK X kws tk)
    (hall : (backToKw pos (keywordEach kws X.env)).all (·.1.isSome) = true := by rfl) (hks : (backToKw pos (keywordEach kws X.env)).filterMap (·.1) = ks := by rfl)
    (he : starEach (e :: es) X.env = (false, eval e X.env) :: starEach es X.env := by rfl) (hpl : ((backTo pos (starEach (e :: es) X.env)).any (·.1) || (backToKw pos (keywordEach kws X.env)).any (·.1.isNone)) = false := by rfl)
    (hev : eval (.Call (.Attribute o m apos) (e :: es) kws pos) X.env = (do let ov ← eval o X.env; standAt apos.atName; let (f, first) ← holding [ov] (getMethod ov m pl); callWith pos f first (backTo pos (starEach (e :: es) X.env)) (backToKw pos (keywordEach kws X.env))) := by rfl) :
    PE X (.Call (.Attribute o m apos) (e :: es) kws pos) (tMethK C m n ks.length sp gV E ta t tk) := by
  refine ⟨fun pins s σ H Q I h => PySem.W.methodCall_KW (thn (ho.run pins s σ H _ I h) fun u s1 ⟨x, H1, I1, rx, a, dx, fs, ex, hi, hl, q1⟩ => ?_) hev⟩
  subst ex
  cases (show u = Value.ref a from rx)
  refine getmeth_ok I1 hi c hm hl ?_
  refine PySem.W.callWith_KW (h₀ := X.base) I1.ok.mod.kin hm.kp hall (thn (ha.run pos pins s1 σ H1 _ I1 q1) fun us s2 ⟨vs, H2, I2, r1, q2⟩ => thn (hkw.run pos pins s2 σ H2 _ I2 q2) fun ws s3 ⟨zs, H3, I3, rz, l1, l2, q3⟩ => ⟨I3.kIn, ?_⟩) hpl he
  rw [hks]
  exact run_fnN F hr hb hx I3 (.cons (show RelV (.ref a) (Value.ref a) from rfl) r1) rz l1 l2 q3
/-- o.m(k = e, ..) -/
theorem pe_methK0 (ho : PE X o ta) (c : Cls X.K C) (hm : Meth X.K C m f) (F : FnOk X.prog X.w X.K X.mg X.base CX k f fd ps sp) (hr : Room k X.A) (hb : KBn X.K fd ps 1 ks g gV) (hx : Passes CX X E) (hkw : PK X kws tk)
    (hall : (backToKw pos (keywordEach kws X.env)).all (·.1.isSome) = true := by rfl) (hks : (backToKw pos (keywordEach kws X.env)).filterMap (·.1) = ks := by rfl)
    (hpl : ((backTo pos (starEach [] X.env)).any (·.1) || (backToKw pos (keywordEach kws X.env)).any (·.1.isNone)) = false := by rfl)
    (hev : eval (.Call (.Attribute o m apos) [] kws pos) X.env = (do let ov ← eval o X.env; standAt apos.atName; let (f, first) ← holding [ov] (getMethod ov m pl); callWith pos f first (backTo pos (starEach [] X.env)) (backToKw pos (keywordEach kws X.env))) := by rfl) :
    PE X (.Call (.Attribute o m apos) [] kws pos) (tMethK C m 1 ks.length sp gV E ta tNil tk) := by
  refine ⟨fun pins s σ H Q I h => PySem.W.methodCall_KW (thn (ho.run pins s σ H _ I h) fun u s1 ⟨x, H1, I1, rx, a, dx, fs, ex, hi, hl, q1⟩ => ?_) hev⟩
  subst ex
  cases (show u = Value.ref a from rx)
  refine getmeth_ok I1 hi c hm hl ?_
  refine PySem.W.callWith_KW0 (h₀ := X.base) I1.ok.mod.kin hm.kp hall (thn (hkw.run pos pins s1 σ H1 _ I1 q1) fun ws s3 ⟨zs, H3, I3, rz, l1, l2, q3⟩ => ⟨I3.kIn, ?_⟩) hpl
  rw [hks]
  exact run_fnN F hr hb hx I3 (.cons (show RelV (.ref a) (Value.ref a) from rfl) .nil) rz l1 l2 q3
end
/-- the def number j of a class -/
def defOf (st : Stmt) (j : Nat) : Stmt := match st with
  | .ClassDef _ _ _ b _ _ _ _ _ _ _ => b.getD j (.Pass ⟨0, 0, 0, 0⟩)
  | s => s
end Loc
/-! ### a store: trees by names, and the changes -/
namespace Loc
open PySem PySem.Spec PyProof.Rows L2
abbrev KS := List (Str × V)
def kv (m : KS) : List (Key × V) := m.map fun p => (.inr p.1, p.2)
def getS (m : KS) (n : Str) : Option V := valV m n
def putS (m : KS) (n : Str) (v : V) : KS := putK m n v
def dropS (m : KS) (n : Str) : KS := dropK m n
theorem inr_eq {x n : Str} : decide ((Sum.inr x : Key) = Sum.inr n) = decide (x = n) := by
  by_cases h : x = n
  · rw [h]
    simp
  · rw [decide_eq_false h, decide_eq_false (fun z => h (Sum.inr.inj z))]
theorem ksget (m : KS) (n : Str) : valV (kv m) (.inr n : Key) = getS m n := by
  unfold getS valV kv
  rw [List.find?_map, Option.map_map]
  show Option.map _ (List.find? (fun p => decide ((Sum.inr p.1 : Key) = Sum.inr n)) m) = _
  rw [show (fun p : Str × V => decide ((Sum.inr p.1 : Key) = Sum.inr n)) = fun p => decide (p.1 = n) from funext fun p => inr_eq]
  rfl
theorem ksput (m : KS) (n : Str) (v : V) : putK (kv m) (.inr n : Key) v = kv (putS m n v) := by
  unfold putS putK kv
  rw [List.any_map, show ((fun q : Key × V => decide (q.1 = (Sum.inr n : Key))) ∘ fun p : Str × V => ((Sum.inr p.1 : Key), p.2)) = fun p => decide (p.1 = n) from funext fun p => inr_eq]
  split
  · rw [List.map_map, List.map_map]
    refine List.map_congr_left fun p _ => ?_
    by_cases h : p.1 = n
    · simp [h]
    · simp [h]
  · rw [List.map_append]
    rfl
theorem ksdrop (m : KS) (n : Str) : dropK (kv m) (.inr n : Key) = kv (dropS m n) := by
  unfold dropS dropK kv
  rw [List.filter_map]
  congr 1
  refine List.filter_congr fun p _ => ?_
  show decide ((Sum.inr p.1 : Key) ≠ Sum.inr n) = _
  by_cases h : p.1 = n
  · simp [h]
  · simp [h]
theorem kslen (m : KS) : (kv m).length = m.length := by
  unfold kv
  rw [List.length_map]
theorem kskeys (m : KS) : (kv m).map (·.1) = (m.map (·.1)).map Sum.inr := by
  unfold kv
  rw [List.map_map, List.map_map]
  rfl
theorem putS_len {m : KS} {n : Str} {v : V} : (putS m n v).length ≤ m.length + 1 ∧ ((getS m n).isSome = true → (putS m n v).length = m.length) := by
  unfold putS putK
  split
  · rw [List.length_map]
    exact ⟨Nat.le_succ _, fun _ => rfl⟩
  · rename_i h
    rw [List.length_append]
    refine ⟨Nat.le_refl _, fun g => absurd ?_ h⟩
    unfold getS valV at g
    rw [Option.isSome_map] at g
    rw [List.any_eq_true]
    obtain ⟨p, hp⟩ := Option.isSome_iff_exists.mp g
    exact ⟨p, List.mem_of_find?_eq_some hp, by have := List.find?_some hp; exact this⟩
/-- all but two stays -/
def Fs (a L : Addr) (H H' : Hp) : Prop := ∀ b o, b ≠ a → b ≠ L → H b = some o → H' b = some o
theorem Fs.refl {a L : Addr} (H : Hp) : Fs a L H H := fun _ _ _ _ h => h
theorem Fs.trans {a L : Addr} {H H1 H2 : Hp} (x : Fs a L H H1) (y : Fs a L H1 H2) : Fs a L H H2 := fun b o n1 n2 h => y b o n1 n2 (x b o n1 n2 h)
theorem Fs.of {a L : Addr} {H H' : Hp} (s : Same H H') : Fs a L H H' := fun b o _ _ h => s b o h
/-- a store of the class C at a, its changes at L -/
def DkZ (Z : Addr → Prop) (H : Hp) (d : Addr) (x : KS) : Prop := H d = some (.dK (kv x)) ∧ ¬ Z d
/-- none of its dicts is in Z -/
def StoV (Z : Addr → Prop) (C : Addr) (H : Hp) (a L : Addr) (m : KS) (os : List KS) : Prop := ∃ (D dx : Addr) (ds : List Addr), H a = some (.ins C dx [("_kept", .ref D), ("_earlier", .ref L)]) ∧ DkZ Z H D m ∧ H L = some (.lst (ds.map V.ref)) ∧ Paired (DkZ Z H) ds os
theorem paired_imp {α β : Type} {R S : α → β → Prop} (h : ∀ a b, R a b → S a b) : ∀ {xs : List α} {ys : List β}, Paired R xs ys → Paired S xs ys
  | _, _, .nil => .nil
  | _, _, .cons a t => .cons (h _ _ a) (paired_imp h t)
theorem StoV.up {Z : Addr → Prop} {C : Addr} {H H' : Hp} {a L : Addr} {m : KS} {os : List KS} (h : StoV Z C H a L m os) (e : ∀ b o, (∀ ps, o ≠ .tbl ps) → H b = some o → (b = a ∨ b = L ∨ (¬ Z b ∧ ∃ kvs, o = .dK kvs)) → H' b = some o) : StoV Z C H' a L m os := by
  obtain ⟨D, dx, ds, h1, h2, h3, h4⟩ := h
  have k : ∀ d x, DkZ Z H d x → DkZ Z H' d x := fun d x h => ⟨e _ _ (fun _ z => by cases z) h.1 (.inr (.inr ⟨h.2, _, rfl⟩)), h.2⟩
  exact ⟨D, dx, ds, e _ _ (fun _ z => by cases z) h1 (.inl rfl), k _ _ h2, e _ _ (fun _ z => by cases z) h3 (.inr (.inl rfl)), paired_imp k h4⟩
theorem StoV.same {Z : Addr → Prop} {C : Addr} {H H' : Hp} {a L : Addr} {m : KS} {os : List KS} (h : StoV Z C H a L m os) (e : Same H H') : StoV Z C H' a L m os := h.up fun b o _ g _ => e b o g
theorem StoV.ext {Z : Addr → Prop} {C : Addr} {H H' : Hp} {a L : Addr} {m : KS} {os : List KS} (h : StoV Z C H a L m os) (e : LamX.ExtN H H') : StoV Z C H' a L m os := h.up fun b o n g _ => e b o g n
theorem StoV.z {Z Z' : Addr → Prop} {C : Addr} {H : Hp} {a L : Addr} {m : KS} {os : List KS} (h : StoV Z C H a L m os) (e : ∀ b, Z' b → H b = none) : StoV Z' C H a L m os := by
  obtain ⟨D, dx, ds, h1, h2, h3, h4⟩ := h
  have k : ∀ d x, DkZ Z H d x → DkZ Z' H d x := fun d x h => ⟨h.1, fun z => by have h1 := h.1; rw [e d z] at h1; cases h1⟩
  exact ⟨D, dx, ds, h1, k _ _ h2, h3, paired_imp k h4⟩
theorem StoV.but {Z : Addr → Prop} {C p : Addr} {H H' : Hp} {a L : Addr} {m : KS} {os : List KS} {xs : List V} (h : StoV Z C H a L m os) (e : But p H H') (hp : H p = some (.lst xs)) (n : p ≠ L) : StoV Z C H' a L m os := h.up fun b o _ g k => e b o (by
  rintro rfl
  rcases k with rfl | rfl | ⟨_, kvs, rfl⟩
  · obtain ⟨_, _, _, h1, _⟩ := h
    rw [hp] at h1
    cases h1
  · exact n rfl
  · rw [hp] at g
    cases g) g
end Loc
namespace Loc
open PySem PySem.Spec PyProof.Rows L2
theorem lc_str {x : Str} {g : TG} {tt : TT} {te : TE} {vs : List Nat} {σ : L2.St} {H1 : Hp} {D : Addr} {Qd : Hp → Prop} (Pv : Nat → Hp → Prop) (h0 : Pv 0 (upd H1 D (.lst [])))
    (step : ∀ (i : Nat) c (H : Hp), x.cps[i]? = some c → Pv i H → g (.str ⟨#[c]⟩) (wipe σ vs) H fun σ2 H2 => wipe σ2 vs = wipe σ vs ∧ tt σ2 H2 fun b H3 => if b = true then te σ2 H3 fun y H4 => ∃ acc, H4 D = some (.lst acc) ∧ acc.length < sizeLine ∧ Pv (i + 1) (upd H4 D (.lst (acc ++ [y]))) else Pv (i + 1) H3)
    (hd : ∀ H, Pv x.cps.size H → Qd H) :
    ∃ W : Nat → Nat → Hp → Prop, (∃ m, W 0 m (upd H1 D (.lst []))) ∧ ∀ i m H, W i m H → ((Its x).stop i H ∧ Qd H) ∨ ((Its x).go i H ∧ ∃ Nx : Hp → Prop, (∀ H', Nx H' → ∃ m', m' < m ∧ W (i + 1) m' H') ∧
      ∀ v H', (Its x).yld i H v H' → g v (wipe σ vs) H' fun σ2 H2 => wipe σ2 vs = wipe σ vs ∧ tt σ2 H2 fun b H3 => if b = true then te σ2 H3 fun y H4 => ∃ acc, H4 D = some (.lst acc) ∧ acc.length < sizeLine ∧ Nx (upd H4 D (.lst (acc ++ [y]))) else Nx H3) := by
  refine ⟨fun i m H => m = x.cps.size - i ∧ i ≤ x.cps.size ∧ Pv i H, ⟨_, rfl, Nat.zero_le _, h0⟩, ?_⟩
  rintro i m H ⟨rfl, le, p⟩
  by_cases c : i < x.cps.size
  · refine .inr ⟨c, Pv (i + 1), fun H' p' => ⟨x.cps.size - (i + 1), by omega, rfl, c, p'⟩, fun v H' hy => ?_⟩
    obtain ⟨rfl, cc, e, rfl⟩ := hy
    exact step i cc _ e p
  · have : i = x.cps.size := by omega
    subst this
    exact .inl ⟨Nat.le_refl _, hd _ p⟩
/-! the two fields -/
theorem kc : ¬ (("_kept" : Str) = "_earlier") := by decide +kernel
def flds (D L : Addr) : List (Str × V) := [("_kept", .ref D), ("_earlier", .ref L)]
theorem flds_kept (D L : Addr) : (flds D L).lookup ("_kept" : Str) = some (.ref D) := by
  unfold flds
  rw [List.lookup_cons, show (("_kept" : Str) == "_kept") = true by decide +kernel]
theorem flds_early (D L : Addr) : (flds D L).lookup ("_earlier" : Str) = some (.ref L) := by
  unfold flds
  rw [List.lookup_cons, show (("_earlier" : Str) == "_kept") = false by decide +kernel]
  show List.lookup _ _ = _
  rw [List.lookup_cons, show (("_earlier" : Str) == "_earlier") = true by decide +kernel]
theorem flds_no (D L : Addr) {m : Str} (h1 : (m == ("_kept" : Str)) = false) (h2 : (m == ("_earlier" : Str)) = false) : (flds D L).lookup m = none := by
  unfold flds
  rw [List.lookup_cons, h1]
  show List.lookup _ _ = _
  rw [List.lookup_cons, h2]
  rfl
theorem put_kept (D D' L : Addr) : putF "_kept" (.ref D') (flds D L) = flds D' L := by
  show (if ("_kept" : Str) = "_kept" then (("_kept" : Str), V.ref D') :: [(("_earlier" : Str), V.ref L)] else _) = _
  rw [if_pos rfl]
  rfl
theorem put_new (D L : Addr) : putF "_earlier" (.ref L) (putF "_kept" (.ref D) []) = flds D L := by
  show (if ("_kept" : Str) = "_earlier" then _ else (("_kept" : Str), V.ref D) :: putF "_earlier" (.ref L) []) = _
  rw [if_neg kc]
  rfl
end Loc
namespace Loc
open PySem PySem.Spec PyProof.Rows L2
theorem paired_app {α β : Type} {R : α → β → Prop} : ∀ {xs : List α} {ys : List β} {us : List α} {vs : List β}, Paired R xs ys → Paired R us vs → Paired R (xs ++ us) (ys ++ vs)
  | _, _, _, _, .nil, k => k
  | _, _, _, _, .cons a t, k => .cons a (paired_app t k)
theorem paired_len {α β : Type} {R : α → β → Prop} : ∀ {xs : List α} {ys : List β}, Paired R xs ys → xs.length = ys.length
  | _, _, .nil => rfl
  | _, _, .cons _ t => by rw [List.length_cons, List.length_cons, paired_len t]
/-- a method of a class -/
structure MethF (K : PySem.W.Frag) (C : Addr) (nm q : Str) (st : Stmt) (ps : List Str) (u : Addr) (v : FuncData) : Prop where
  F : Fun K nm q st u v
  M : Meth K C nm u
  b : Binds K v ps []
/-- a property -/
structure PropF (K : PySem.W.Frag) (C : Addr) (nm q : Str) (st : Stmt) (p u : Addr) (v : FuncData) : Prop where
  F : Fun K nm q st u v
  P : PropOf K C nm p u
  b : Binds K v ["self"] []
theorem StoV.get {Z : Addr → Prop} {C : Addr} {H : Hp} {a L : Addr} {m : KS} {os : List KS} (h : StoV Z C H a L m os) : ∃ (D dx : Addr) (ds : List Addr), H a = some (.ins C dx (flds D L)) ∧ H D = some (.dK (kv m)) ∧ H L = some (.lst (ds.map V.ref)) ∧ Paired (DkZ Z H) ds os ∧ ¬ Z D := let ⟨D, dx, ds, h1, h2, h3, h4⟩ := h; ⟨D, dx, ds, h1, h2.1, h3, h4, h2.2⟩
theorem StoV.wr {Z : Addr → Prop} {C : Addr} {H : Hp} {a L D D' dx : Addr} {m m' : KS} {os : List KS} {ds : List Addr} (h1 : H a = some (.ins C dx (flds D L))) (h2 : H D = some (.dK (kv m))) (h3 : H L = some (.lst (ds.map V.ref))) (h4 : Paired (DkZ Z H) ds os) (h6 : ¬ Z D) (h5 : H D' = some (.dK (kv m'))) (h7 : ¬ Z D') :
    StoV Z C (upd (upd H L (.lst (ds.map V.ref ++ [V.ref D]))) a (.ins C dx (flds D' L))) a L m' (os ++ [m]) ∧ Fs a L H (upd (upd H L (.lst (ds.map V.ref ++ [V.ref D]))) a (.ins C dx (flds D' L))) := by
  have nLa : L ≠ a := fun z => by rw [z, h1] at h3; cases h3
  have nD : ∀ {d : Addr} {x : List (Key × V)}, H d = some (.dK x) → d ≠ a ∧ d ≠ L := fun e => ⟨(fun z => by rw [z, h1] at e; cases e), (fun z => by rw [z, h3] at e; cases e)⟩
  have old : ∀ {d : Addr} {x : List (Key × V)}, H d = some (.dK x) → (upd (upd H L (.lst (ds.map V.ref ++ [V.ref D]))) a (.ins C dx (flds D' L))) d = some (.dK x) := fun e => by
    rw [upd_ne (nD e).1, upd_ne (nD e).2]
    exact e
  refine ⟨⟨D', dx, ds ++ [D], upd_same, ⟨old h5, h7⟩, by rw [upd_ne nLa, upd_same, List.map_append]; rfl, ?_⟩, fun b o n1 n2 e => by rw [upd_ne n1, upd_ne n2]; exact e⟩
  exact paired_app (paired_imp (fun d x e => ⟨old e.1, e.2⟩) h4) (.cons ⟨old h2, h6⟩ .nil)
end Loc
namespace Loc
open PySem PySem.Spec PyProof.Rows L2
theorem StoV.ne {Z : Addr → Prop} {C : Addr} {H : Hp} {a L b : Addr} {m : KS} {os : List KS} {o : HO} (h : StoV Z C H a L m os) (e : H b = some o) (n : (∀ c dx fs, o ≠ .ins c dx fs) ∧ (∀ xs, o ≠ .lst xs)) : b ≠ a ∧ b ≠ L := by
  obtain ⟨D, dx, ds, h1, _, h3, _⟩ := h
  refine ⟨(fun z => ?_), (fun z => ?_)⟩
  · rw [z, h1] at e
    exact n.1 _ _ _ (Option.some.inj e).symm
  · rw [z, h3] at e
    exact n.2 _ (Option.some.inj e).symm
theorem StoV.tups {Z : Addr → Prop} {K : PySem.W.Frag} {C : Addr} {H H' : Hp} {a L : Addr} {m : KS} {os : List KS} (h : StoV Z C H a L m os) (f : Fs a L H H') : Tups K H H' := fun b xs t => by
  rcases t with (t | ⟨o, t⟩) | t
  · obtain ⟨n1, n2⟩ := h.ne t ⟨(fun _ _ _ z => by cases z), (fun _ z => by cases z)⟩
    exact .inl (.inl (f b _ n1 n2 t))
  · obtain ⟨n1, n2⟩ := h.ne t ⟨(fun _ _ _ z => by cases z), (fun _ z => by cases z)⟩
    exact .inl (.inr ⟨o, f b _ n1 n2 t⟩)
  · exact .inr t
end Loc

set_option Elab.async false
set_option linter.all false
set_option maxRecDepth 100000
namespace C64
open PySem PySem.Spec PyProof.Rows L2 Loc RZ
abbrev sStore : Stmt := topS 81
abbrev sM_init : Stmt := defOf sStore 1
abbrev sM_put : Stmt := defOf sStore 2
abbrev sM_splice : Stmt := defOf sStore 3
abbrev sM_part : Stmt := defOf sStore 4
abbrev sM_concat : Stmt := defOf sStore 5
abbrev sM_repeat : Stmt := defOf sStore 6
abbrev sM_drop : Stmt := defOf sStore 7
abbrev sM_undo : Stmt := defOf sStore 8
abbrev sM_tree : Stmt := defOf sStore 9
abbrev sM_difference : Stmt := defOf sStore 10
abbrev sM_names : Stmt := defOf sStore 11
abbrev sM_changes : Stmt := defOf sStore 12
abbrev sM_cost : Stmt := defOf sStore 13
abbrev sM_written : Stmt := defOf sStore 14
abbrev sM_read : Stmt := defOf sStore 15
abbrev sM_copy : Stmt := defOf sStore 16
abbrev sM_len : Stmt := defOf sStore 17
abbrev sM_eq : Stmt := defOf sStore 18
abbrev sM_check_kept : Stmt := defOf sStore 19
abbrev sM_keep : Stmt := defOf sStore 20
abbrev sM_change : Stmt := defOf sStore 21
abbrev sI_BadText : Stmt := initOf (topS 3)
abbrev sI_TooLong : Stmt := initOf (topS 4)
abbrev sI_NoRange : Stmt := initOf (topS 5)
abbrev sI_BadName : Stmt := initOf (topS 6)
abbrev sI_BadRuns : Stmt := initOf (topS 7)
abbrev sI_BadTimes : Stmt := initOf (topS 8)
abbrev sI_NoName : Stmt := initOf (topS 9)
abbrev sI_TooMany : Stmt := initOf (topS 10)
/-! ### the store's names and runs -/
section
variable {P : Program} {w : World} {K : PySem.W.Frag} {mg : Str → Option Value} {base : Heap}
def lets : Str := "abcdefghijklmnopqrstuvwxyz"
/-- a name -/
def Nm (s : Str) : Prop := 1 ≤ s.length ∧ s.length ≤ 8 ∧ ∀ c ∈ s.cps.toList, c ∈ lets.cps.toList
theorem scIsName : FnScope ["value", "sign"] ["value"] (defScope s_is_name) := ⟨rfl, rfl, rfl, by decide +kernel, rfl, by decide +kernel, by decide +kernel⟩
theorem scChkName : FnScope ["value"] ["value"] (defScope s__check_name) := ⟨rfl, rfl, rfl, by decide +kernel, rfl, by decide +kernel, by decide +kernel⟩
theorem scChkRuns : FnScope ["value"] ["value"] (defScope s__check_runs) := ⟨rfl, rfl, rfl, by decide +kernel, rfl, by decide +kernel, by decide +kernel⟩
def spIsName : Sp := fun vs H Q _ => ∃ s : Str, vs = [.str s] ∧ Nm s ∧ ∀ H', Same H H' → Q (.bl true) H'
def spChkName : Sp := fun vs H Q _ => ∃ s : Str, vs = [.str s] ∧ Nm s ∧ ∀ H', Same H H' → Q .non H'
def spChkRuns (K : PySem.W.Frag) : Sp := fun vs H Q _ => ∃ (a : Addr) (ws : List V) (gs : List (Nd × Nat)), vs = [.ref a] ∧ SqT K H a ws ∧ PrsV K H ws gs ∧ Giv gs ∧ gs.length ≤ 300 ∧ ∀ H', Same H H' → Q .non H'
theorem ok_isname (X : Facts K mg) : FnOk P w K mg base CX0 1 X.uis_name X.vis_name ["value"] spIsName := by
  refine X.fis_name.ok scIsName (fun vs H Q E h => ?_) (fun cdv A outer s H vs Q E hr h => ?_)
  · obtain ⟨s, rfl, _⟩ := h
    rfl
  · obtain ⟨s, rfl, ⟨n1, n2, n3⟩, q⟩ := h
    refine ⟨_, pss_cons (ps_if (PW.pt (pw_or (pt_not (pt_val (pe_callB call_isi (by rfl) X.isinstance PyProof.Rows.boot_isinstance (pa_cons (pv 0) (pa_cons (pe_bltn (v := .ty "str") (by rfl) X.str PyProof.Rows.boot_str rfl) pa_nil)))))
          (pw_or1 (pt_not (pt_chain op_le op_le pe_int (pe_callB call_len_str (by rfl) X.len PySem.boot_len (pa_cons (pv 0) pa_nil)) (pe_glob (v := .int 8) (by rfl) X.LONGEST_NAME ⟨_, rfl⟩)))))) (pss_one (ps_ret pe_bl)) pss_nil)
      (pss_one (ps_ret (pe_callB (cr_all rfl) (by rfl) X.all PyProof.Rows.boot_all (pa_cons
        (pe_lc (own := [("sign", 1)]) (g := gName 1) (tt := tYes) (te := tOp (fun x y H Q => ∃ (c : Nat) (z : Str), x = .str ⟨#[c]⟩ ∧ y = .str z ∧ Q (.bl (decide (c ∈ z.cps.toList))) H) (tVar 1) (tC (.str lets)))
          rfl scIsName.nd (pi_str (pv 0)) (blkOk_by (N := ["value", "sign"]) (sc := defScope s_is_name) (by decide +kernel))
          (fun _ _ _ _ _ => pg_name (i := 1) scIsName.nd rfl (Or.inl rfl)) (fun _ _ _ _ _ => pts_nil)
          (fun _ _ _ _ _ => pe_cmpR op_in_sign (pv 1) (pe_glob (v := .str lets) (by rfl) X.LETTERS ⟨_, rfl⟩) rfl)) pa_nil)))), ?_⟩
    refine ⟨_, rfl, _, _, _, _, true, rfl, .ty "str", .base (.str _), kit_ty (a := "str") (by decide +kernel), _, rfl, ?_⟩
    refine ⟨.str s, rfl, s, rfl, Nat.le_trans n2 (by decide), 1, _, rfl, rfl, _, rfl, ?_⟩
    rw [decide_eq_true (show (1 : Int) ≤ ((s.length : Nat) : Int) by omega)]
    refine iteT ⟨_, _, rfl, rfl, _, rfl, ?_⟩
    rw [decide_eq_true (show ((s.length : Nat) : Int) ≤ 8 by omega)]
    refine iteF ?_
    refine ⟨_, rfl, s, rfl, fun D nD => ?_⟩
    refine lc_str (fun i H' => ∃ bs : List Bool, H' D = some (.lst (bs.map V.bl)) ∧ bs.length = i ∧ bs.all id = true ∧ Same H H') ⟨[], upd_same, rfl, rfl, sameN nD⟩ (fun i c H' hc hp => ?_) (fun H' hp => ?_)
    · obtain ⟨bs, gD, lb, ab, s1⟩ := hp
      refine ⟨rfl, .str ⟨#[c]⟩, rfl, c, lets, rfl, rfl, bs.map V.bl, gD, ?_, bs ++ [decide (c ∈ lets.cps.toList)], ?_, ?_, ?_, fun b o e => by rw [upd_ne (ne_of_none e nD)]; exact s1 b o e⟩
      · have hi : i < s.cps.size := by
          rcases Nat.lt_or_ge i s.cps.size with h | h
          · exact h
          · rw [Array.getElem?_eq_none h] at hc
            cases hc
        rw [List.length_map, lb]
        exact Nat.lt_of_lt_of_le hi (Nat.le_trans n2 (by decide))
      · rw [List.map_append]
        exact upd_same
      · rw [List.length_append, lb]
        rfl
      · rw [List.all_append, ab, decide_eq_true (n3 c (List.mem_of_getElem? (by rw [Array.getElem?_toList]; exact hc)))]
        rfl
    · obtain ⟨bs, gD, lb, ab, s1⟩ := hp
      refine ⟨D, bs, rfl, .inl (.inl gD), ?_⟩
      rw [ab]
      exact q _ s1
theorem ok_chkname (X : Facts K mg) : FnOk P w K mg base CX0 2 X.ucheck_name X.vcheck_name ["value"] spChkName := by
  have G := ok_isname (P := P) (w := w) (base := base) X
  refine X.fcheck_name.ok scChkName (fun vs H Q E h => ?_) (fun cdv A outer s H vs Q E hr h => ?_)
  · obtain ⟨s, rfl, _⟩ := h
    rfl
  · obtain ⟨s, rfl, nm, q⟩ := h
    refine ⟨_, pss_one (ps_if (pt_not (pt_val (pe_call G hr (by rfl) X.gis_name X.fis_name.kp X.bis_name .nil pass0 (pa_cons (pv 0) pa_nil)))) pss_never pss_nil), ?_⟩
    exact ⟨_, rfl, s, rfl, nm, fun H1 s1 => ⟨_, rfl, iteF (q _ s1)⟩⟩
theorem ok_chkruns (X : Facts K mg) : FnOk P w K mg base CX0 5 X.ucheck_runs X.vcheck_runs ["value"] (spChkRuns K) := by
  have G := ok_isruns (P := P) (w := w) (base := base) X
  refine X.fcheck_runs.ok scChkRuns (fun vs H Q E h => ?_) (fun cdv A outer s H vs Q E hr h => ?_)
  · obtain ⟨a, ws, gs, rfl, _⟩ := h
    rfl
  · obtain ⟨a, ws, gs, rfl, hT, hP, giv, l3, q⟩ := h
    refine ⟨_, pss_one (ps_if (pt_not (pt_val (pe_call G hr (by rfl) X.gis_runs X.fis_runs.kp X.bis_runs .nil pass0 (pa_cons (pv 0) pa_nil)))) pss_never pss_nil), ?_⟩
    exact ⟨_, rfl, a, ws, gs, rfl, hT, hP, giv, l3, fun H1 s1 => ⟨_, rfl, iteF (q _ s1)⟩⟩
end
end C64

set_option Elab.async false
set_option linter.all false
set_option maxRecDepth 100000
namespace C64
open PySem PySem.Spec PyProof.Rows L2 Loc RZ
/-! ### the store's methods -/
section
/-- what is known of the class -/
structure StoF (K : PySem.W.Frag) (mg : Str → Option Value) where
  {C : Addr} {iI : Addr} {vI : FuncData} {uP : Addr} {vP : FuncData} {uD : Addr} {vD : FuncData} {uT : Addr} {vT : FuncData} {uK : Addr} {vK : FuncData} {uW : Addr} {vW : FuncData} {uG : Addr} {vG : FuncData}
  {pN : Addr} {uN : Addr} {vN : FuncData} {pH : Addr} {uH : Addr} {vH : FuncData} {uL : Addr} {vL : FuncData} {mc : Value} {t60 : Tok}
  g : mg "Store" = some (.ref C)
  c : Cls K C
  nK : NoAttr K C "_kept"
  nE : NoAttr K C "_earlier"
  new : Mk K C iI
  I : Fun K "__init__" "Store.__init__" sM_init iI vI
  bI : Binds K vI ["self"] []
  put : MethF K C "put" "Store.put" sM_put ["self", "name", "runs"] uP vP
  drop : MethF K C "drop" "Store.drop" sM_drop ["self", "name"] uD vD
  tree : MethF K C "tree" "Store.tree" sM_tree ["self", "name"] uT vT
  chk : MethF K C "_check_kept" "Store._check_kept" sM_check_kept ["self", "name"] uK vK
  keep : MethF K C "_keep" "Store._keep" sM_keep ["self", "name", "tree"] uW vW
  chg : MethF K C "_change" "Store._change" sM_change ["self", "kept"] uG vG
  names : PropF K C "names" "Store.names" sM_names pN uN vN
  changes : PropF K C "changes" "Store.changes" sM_changes pH uH vH
  len : PySem.W.findIn K (.ref C) "__len__" = some (some (.ref uL))
  tlen : PySem.W.typeIn K (.ref uL) = some (.type "function")
  FL : Fun K "__len__" "Store.__len__" sM_len uL vL
  bL : Binds K vL ["self"] []
  rd : ClX.CRead K C mc
  most : ClX.CVal K C mc "MOST" (.int 60) (.int 60 t60)
variable {P : Program} {w : World} {K : PySem.W.Frag} {mg : Str → Option Value} {base : Heap}
theorem z3 {H H' : Hp} {b : Addr} (s : Same H H') (n : H b ≠ none) : H' b ≠ none := fun z => n (by
  cases e : H b with
  | none => rfl
  | some o =>
    rw [s _ _ e] at z
    cases z)
theorem none_of {H H' : Hp} {b : Addr} (s : Same H H') (n : H' b = none) : H b = none := by
  cases z : H b with
  | none => rfl
  | some o =>
    rw [s _ _ z] at n
    cases n
theorem scSI : FnScope ["self"] ["self"] (defScope sM_init) := ⟨rfl, rfl, rfl, by decide +kernel, rfl, by decide +kernel, by decide +kernel⟩
theorem scSG : FnScope ["self", "kept"] ["self", "kept"] (defScope sM_change) := ⟨rfl, rfl, rfl, by decide +kernel, rfl, by decide +kernel, by decide +kernel⟩
theorem scSW : FnScope ["self", "name", "tree", "kept"] ["self", "name", "tree"] (defScope sM_keep) := ⟨rfl, rfl, rfl, by decide +kernel, rfl, by decide +kernel, by decide +kernel⟩
theorem scSP : FnScope ["self", "name", "runs"] ["self", "name", "runs"] (defScope sM_put) := ⟨rfl, rfl, rfl, by decide +kernel, rfl, by decide +kernel, by decide +kernel⟩
theorem scSL : FnScope ["self"] ["self"] (defScope sM_len) := ⟨rfl, rfl, rfl, by decide +kernel, rfl, by decide +kernel, by decide +kernel⟩
theorem scSH : FnScope ["self"] ["self"] (defScope sM_changes) := ⟨rfl, rfl, rfl, by decide +kernel, rfl, by decide +kernel, by decide +kernel⟩
theorem scSN : FnScope ["self"] ["self"] (defScope sM_names) := ⟨rfl, rfl, rfl, by decide +kernel, rfl, by decide +kernel, by decide +kernel⟩
def spSI (C : Addr) : Sp := fun vs H Q _ => ∃ (a dx : Addr), vs = [.ref a] ∧ H a = some (.ins C dx []) ∧ ∀ H' L, StoV (fun _ => False) C H' a L [] [] → (∀ b o, b ≠ a → H b = some o → H' b = some o) → H L = none → Q .non H'
def spSG (C : Addr) : Sp := fun vs H Q _ => ∃ (Z : Addr → Prop) (a L D' : Addr) (m m' : KS) (os : List KS), vs = [.ref a, .ref D'] ∧ StoV Z C H a L m os ∧ H D' = some (.dK (kv m')) ∧ ¬ Z D' ∧ os.length ≤ 100000 ∧ ∀ H', StoV Z C H' a L m' (os ++ [m]) → Fs a L H H' → Q .non H'
def spSW (C : Addr) : Sp := fun vs H Q _ => ∃ (Z : Addr → Prop) (a L : Addr) (n : Str) (v : V) (m : KS) (os : List KS), vs = [.ref a, .str n, v] ∧ StoV Z C H a L m os ∧ (∀ b, Z b → H b ≠ none) ∧ m.length ≤ 60 ∧ ((getS m n).isSome = true ∨ m.length < 60) ∧ os.length ≤ 100000 ∧ ∀ H', StoV Z C H' a L (putS m n v) (os ++ [m]) → Fs a L H H' → Q .non H'
def spSP (K : PySem.W.Frag) (C : Addr) : Sp := fun vs H Q _ => ∃ (Z : Addr → Prop) (a L r : Addr) (n : Str) (ws : List V) (gs : List (Nd × Nat)) (m : KS) (os : List KS), vs = [.ref a, .str n, .ref r] ∧ StoV Z C H a L m os ∧ (∀ b, Z b → H b ≠ none) ∧ Nm n ∧ SqT K H r ws ∧ PrsV K H ws gs ∧ Giv gs ∧ gs.length ≤ 300 ∧ m.length ≤ 60 ∧ ((getS m n).isSome = true ∨ m.length < 60) ∧ os.length ≤ 100000 ∧
  ∀ u H', TreeX K H' u gs → StoV Z C H' a L (putS m n u) (os ++ [m]) → Fs a L H H' → Q .non H'
def spSL (C : Addr) : Sp := fun vs H Q _ => ∃ (Z : Addr → Prop) (a L : Addr) (m : KS) (os : List KS), vs = [.ref a] ∧ StoV Z C H a L m os ∧ Q (.int (m.length : Nat)) H
def spSH (C : Addr) : Sp := fun vs H Q _ => ∃ (Z : Addr → Prop) (a L : Addr) (m : KS) (os : List KS), vs = [.ref a] ∧ StoV Z C H a L m os ∧ Q (.int (os.length : Nat)) H
def spSN (C : Addr) : Sp := fun vs H Q _ => ∃ (Z : Addr → Prop) (a L : Addr) (m : KS) (os : List KS), vs = [.ref a] ∧ StoV Z C H a L m os ∧ m.length ≤ 60 ∧ ∀ (ys : List Str) (t : Addr) (H' : Hp), ys.Perm (m.map (·.1)) → sortedS ys = true → Same H H' → H t = none → H' t = some (.tup (ys.map V.str)) → Q (.ref t) H'
theorem ok_SI (S : StoF K mg) : FnOk P w K mg base CX0 1 S.iI S.vI ["self"] (spSI S.C) := by
  refine S.I.ok scSI (fun vs H Q E h => ?_) (fun cdv A outer s H vs Q E hr h => ?_)
  · obtain ⟨a, dx, rfl, _⟩ := h
    rfl
  · obtain ⟨a, dx, rfl, ha, q⟩ := h
    refine ⟨_, pss_cons (ps_fld (pv 0) pe_dnewK rfl) (pss_one (ps_fld (pv 0) (pe_lst pa_nil) rfl)), ?_⟩
    intro D nD
    have nDa : a ≠ D := ne_of_none ha nD
    refine ⟨_, rfl, a, S.C, dx, [], rfl, (by rw [upd_ne nDa]; exact ha), S.c, S.nK, (by show 0 < 1000; decide), ?_⟩
    refine ⟨(show 0 ≤ sizeLine by decide), fun L nL => ?_⟩
    have nLa : a ≠ L := fun z => by rw [← z, upd_same] at nL; cases nL
    have nLD : D ≠ L := fun z => by rw [← z, upd_ne nDa.symm, upd_same] at nL; cases nL
    refine ⟨_, rfl, a, S.C, dx, _, rfl, (by rw [upd_ne nLa]; exact upd_same), S.c, S.nE, (by show 1 < 1000; decide), ?_⟩
    rw [put_new]
    have hL : H L = none := by
      rw [upd_ne nLa.symm, upd_ne nLD.symm] at nL
      exact nL
    refine q _ L ⟨D, dx, [], upd_same, ⟨by rw [upd_ne nDa.symm, upd_ne nLD, upd_ne nDa.symm, upd_same]; rfl, fun z => z⟩, by rw [upd_ne nLa.symm, upd_same]; rfl, .nil⟩ (fun b o n1 e => ?_) hL
    rw [upd_ne n1, upd_ne (ne_of_none e hL), upd_ne n1, upd_ne (ne_of_none e nD)]
    exact e
theorem ok_SG (S : StoF K mg) : FnOk P w K mg base CX0 1 S.uG S.vG ["self", "kept"] (spSG S.C) := by
  refine S.chg.F.ok scSG (fun vs H Q E h => ?_) (fun cdv A outer s H vs Q E hr h => ?_)
  · obtain ⟨Z, a, L, D', m, m', os, rfl, _⟩ := h
    rfl
  · obtain ⟨Z, a, L, D', m, m', os, rfl, hS, hD', hZ, lo, q⟩ := h
    obtain ⟨D, dx, ds, h1, h2, h3, h4, h5⟩ := hS.get
    have nLa : L ≠ a := fun z => by rw [z, h1] at h3; cases h3
    have ld := paired_len h4
    refine ⟨_, pss_cons (ps_expr (pe_bm PySem.F.plainAttrs_list PySem.F.slot_list_append PySem.F.type_list_append mt_append (pe_fld (pv 0) rfl) (pa_cons (pe_fld (pv 0) rfl) pa_nil)))
      (pss_one (ps_fld (pv 0) (pv 1) rfl)), ?_⟩
    refine ⟨.ref a, rfl, a, S.C, dx, _, _, rfl, h1, S.c, S.nE, flds_early D L, .inl ⟨rfl, _, .inl (.inl h3)⟩, ?_⟩
    refine ⟨.ref a, rfl, a, S.C, dx, _, _, rfl, h1, S.c, S.nK, flds_kept D L, ?_⟩
    refine ⟨L, ds.map V.ref, .ref D, rfl, rfl, h3, line5 (by rw [List.length_map]; omega), ?_⟩
    refine ⟨.ref D', rfl, .ref a, rfl, a, S.C, dx, _, rfl, by rw [upd_ne nLa.symm]; exact h1, S.c, S.nK, (by show 2 < 1000; decide), ?_⟩
    rw [put_kept]
    obtain ⟨w1, w2⟩ := StoV.wr h1 h2 h3 h4 h5 hD' hZ
    exact q _ w1 w2
theorem ok_SW (S : StoF K mg) (ml : mg "len" = none) (md : mg "dict" = none) : FnOk P w K mg base CX0 2 S.uW S.vW ["self", "name", "tree"] (spSW S.C) := by
  have G := ok_SG (P := P) (w := w) (base := base) S
  refine S.keep.F.ok scSW (fun vs H Q E h => ?_) (fun cdv A outer s H vs Q E hr h => ?_)
  · obtain ⟨Z, a, L, n, v, m, os, rfl, _⟩ := h
    rfl
  · obtain ⟨Z, a, L, n, v, m, os, rfl, hS, hZ, lm, room, lo, q⟩ := h
    have hu := hu_of hr
    obtain ⟨D, dx, ds, h1, h2, h3, h4, h5⟩ := hS.get
    refine ⟨_, pss_cons (ps_if (PW.pt (pw_and (pt_cmp (pc_dnotin hu (pv 1) (pe_fld (pv 0) rfl))) (pw_and1 (pt_cmpR op_ge (pe_callB call_lenD (by rfl) ml PySem.boot_len (pa_cons (pe_fld (pv 0) rfl) pa_nil)) (ClX.pe_cval (pe_glob (v := .ref S.C) (by rfl) S.g rfl)) (nomark _))))) pss_never pss_nil)
      (pss_cons (ps_set (i := 3) scSW.nd rfl (.inl rfl) (pe_callTy call_dictD (by rfl) md (by decide +kernel) (pa_cons (pe_fld (pv 0) rfl) pa_nil)))
      (pss_cons (ps_dput hu (pv 3) (pv 1) (pv 2) rfl)
      (pss_one (ps_expr (pe_meth (pv 0) S.c S.chg.M G hr S.chg.b .nil pass0 (pa_cons (pv 3) pa_nil)))))), ?_⟩
    have rest : tSeq (tAsg (tCB (fun xs H Q => ∃ (a : Addr) (kvs : List (Key × V)), xs = [V.ref a] ∧ Rd H a (.dK kvs) ∧ ∀ (p : Addr), H p = none → Q (V.ref p) (upd H p (.dK kvs))) (tCons (tFld K (tVar 0) "_kept") tNil)) (gName 3))
        (tSeq (sDPut (tVar 3) (tVar 1) (tVar 2)) (tDrop (tMeth S.C "_change" (spSG S.C) [] E0 (tVar 0) (tCons (tVar 3) tNil)))) { nx := fun _ H' => Q V.non H', rt := Q } [some (.ref a), some (.str n), some v, none] H := by
      refine ⟨.ref a, rfl, a, S.C, dx, _, _, rfl, h1, S.c, S.nK, flds_kept D L, D, kv m, rfl, .inl h2, fun D' nD' => ?_⟩
      refine ⟨v, rfl, .ref D', rfl, .str n, rfl, D', _, rfl, .inl ⟨kv m, .inr n, upd_same, rfl, by rw [kslen]; exact Nat.lt_of_le_of_lt lm (by decide), rfl⟩, ?_⟩
      rw [ksput, upd_upd]
      have s1 : Same H (upd H D' (.dK (kv (putS m n v)))) := sameN nD'
      refine ⟨.ref a, rfl, a, dx, _, rfl, s1 _ _ h1, flds_no D L (by decide +kernel) (by decide +kernel), .ref D', rfl, Z, a, L, D', m, putS m n v, os, rfl, hS.same s1, upd_same, (fun z => hZ D' z nD'), lo, fun H' hS' fs => q _ hS' ((Fs.of s1).trans fs)⟩
    refine ⟨.str n, rfl, .ref a, rfl, a, S.C, dx, _, _, rfl, h1, S.c, S.nK, flds_kept D L, D, _, rfl, .inl ⟨_, .inr n, .inl h2, rfl, rfl⟩, _, rfl, ?_⟩
    rw [ksget]
    cases hg : getS m n with
    | some x => exact iteF (iteF rest)
    | none =>
      have l60 : m.length < 60 := by
        rcases room with h | h
        · rw [hg] at h
          cases h
        · exact h
      refine iteT ⟨.ref a, rfl, a, S.C, dx, _, _, rfl, h1, S.c, S.nK, flds_kept D L, D, kv m, rfl, h2, S.C, S.mc, _, _, rfl, S.rd, S.most, _, _, rfl, rfl, _, rfl, ?_⟩
      rw [decide_eq_false (by rw [kslen]; omega)]
      exact iteF rest
theorem ok_SL (S : StoF K mg) (ml : mg "len" = none) : FnOk P w K mg base CX0 1 S.uL S.vL ["self"] (spSL S.C) := by
  refine S.FL.ok scSL (fun vs H Q E h => ?_) (fun cdv A outer s H vs Q E hr h => ?_)
  · obtain ⟨Z, a, L, m, os, rfl, _⟩ := h
    rfl
  · obtain ⟨Z, a, L, m, os, rfl, hS, q⟩ := h
    obtain ⟨D, dx, ds, h1, h2, h3, h4, h5⟩ := hS.get
    refine ⟨_, pss_one (ps_ret (pe_callB call_lenD (by rfl) ml PySem.boot_len (pa_cons (pe_fld (pv 0) rfl) pa_nil))), ?_⟩
    refine ⟨.ref a, rfl, a, S.C, dx, _, _, rfl, h1, S.c, S.nK, flds_kept D L, D, kv m, rfl, h2, ?_⟩
    rw [kslen]
    exact q
theorem ok_SH (S : StoF K mg) (ml : mg "len" = none) : FnOk P w K mg base CX0 1 S.uH S.vH ["self"] (spSH S.C) := by
  refine S.changes.F.ok scSH (fun vs H Q E h => ?_) (fun cdv A outer s H vs Q E hr h => ?_)
  · obtain ⟨Z, a, L, m, os, rfl, _⟩ := h
    rfl
  · obtain ⟨Z, a, L, m, os, rfl, hS, q⟩ := h
    obtain ⟨D, dx, ds, h1, h2, h3, h4, h5⟩ := hS.get
    refine ⟨_, pss_one (ps_ret (pe_callB call_len_seq (by rfl) ml PySem.boot_len (pa_cons (pe_fld (pv 0) rfl) pa_nil))), ?_⟩
    refine ⟨.ref a, rfl, a, S.C, dx, _, _, rfl, h1, S.c, S.nE, flds_early D L, L, _, rfl, .inl (.inl (.inl h3)), ?_⟩
    rw [List.length_map, paired_len h4]
    exact q
theorem ok_SN (S : StoF K mg) (mt : mg "tuple" = none) (ms : mg "sorted" = none) : FnOk P w K mg base CX0 1 S.uN S.vN ["self"] (spSN S.C) := by
  refine S.names.F.ok scSN (fun vs H Q E h => ?_) (fun cdv A outer s H vs Q E hr h => ?_)
  · obtain ⟨Z, a, L, m, os, rfl, _⟩ := h
    rfl
  · obtain ⟨Z, a, L, m, os, rfl, hS, lm, q⟩ := h
    obtain ⟨D, dx, ds, h1, h2, h3, h4, h5⟩ := hS.get
    refine ⟨_, pss_one (ps_ret (pe_callTy call_tuple_of (by rfl) mt PyProof.Rows.boot_tuple (pa_cons (pe_callB (call_sortedD rfl) (by rfl) ms (by decide +kernel) (pa_cons (pe_fld (pv 0) rfl) pa_nil)) pa_nil))), ?_⟩
    refine ⟨.ref a, rfl, a, S.C, dx, _, _, rfl, h1, S.c, S.nK, flds_kept D L, D, kv m, m.map (·.1), rfl, .inl h2, kskeys m, by rw [List.length_map]; omega, fun ys p hp hs np => ?_⟩
    have s1 : Same H (upd H p (.lst (ys.map V.str))) := sameN np
    refine ⟨p, _, rfl, .inl ⟨.inl (.inl upd_same), fun l nl => q ys l _ hp hs (s1.trans (sameN nl)) ?_ upd_same⟩⟩
    exact none_of s1 nl
theorem ok_SP (X : Facts K mg) (S : StoF K mg) : FnOk P w K mg base CX0 26 S.uP S.vP ["self", "name", "runs"] (spSP K S.C) := by
  have G1 := ok_chkname (P := P) (w := w) (base := base) X
  have G2 := ok_chkruns (P := P) (w := w) (base := base) X
  have G3 := ok_SW (P := P) (w := w) (base := base) S X.len X.dict
  have GT : FnOk P w K mg base CX0 25 X.utree_of X.vtree_of ["runs"] (spTreeX K) := base_treeX X
  refine S.put.F.ok scSP (fun vs H Q E h => ?_) (fun cdv A outer s H vs Q E hr h => ?_)
  · obtain ⟨Z, a, L, r, n, ws, gs, m, os, rfl, _⟩ := h
    rfl
  · obtain ⟨Z, a, L, r, n, ws, gs, m, os, rfl, hS, hZ, nm, hT, hP, giv, l3, lm, room, lo, q⟩ := h
    have r2 := hr.mono (j := 2) (by omega)
    have r5 := hr.mono (j := 5) (by omega)
    refine ⟨_, pss_cons (ps_expr (pe_call G1 r2 (by rfl) X.gcheck_name X.fcheck_name.kp X.bcheck_name .nil pass0 (pa_cons (pv 1) pa_nil)))
      (pss_cons (ps_expr (pe_call G2 r5 (by rfl) X.gcheck_runs X.fcheck_runs.kp X.bcheck_runs .nil pass0 (pa_cons (pv 2) pa_nil)))
      (pss_one (ps_expr (pe_meth (pv 0) S.c S.keep.M G3 r2 S.keep.b .nil pass0 (pa_cons (pv 1) (pa_cons (pe_call GT hr (by rfl) X.gtree_of X.ftree_of.kp X.btree_of .nil pass0 (pa_cons (pv 2) pa_nil)) pa_nil)))))), ?_⟩
    refine ⟨.str n, rfl, n, rfl, nm, fun H1 s1 => ?_⟩
    refine ⟨.ref r, rfl, r, ws, gs, rfl, sameT s1 hT, PrsV.up (.of s1) hP, giv, l3, fun H2 s2 => ?_⟩
    have s12 := s1.trans s2
    obtain ⟨D, dx, ds, h1, h2, h3, h4, h5⟩ := (hS.same s12).get
    refine ⟨.ref a, rfl, a, dx, _, rfl, h1, flds_no D L (by decide +kernel) (by decide +kernel), .str n, rfl, .ref r, rfl, r, ws, gs, rfl, sameT s12 hT, PrsV.up (.of s12) hP, giv, l3, fun H3 u s3 hu => ?_⟩
    have s13 := s12.trans s3
    refine ⟨Z, a, L, n, u, m, os, rfl, hS.same s13, (fun b z => z3 s13 (hZ b z)), lm, room, lo, fun H4 hS4 fs => ?_⟩
    exact q u H4 (hu.up ((hS.same s13).tups fs)) hS4 ((Fs.of s13).trans fs)
end
end C64

set_option Elab.async false
set_option linter.all false
set_option maxRecDepth 100000
namespace C64
open PySem PySem.Spec PyProof.Rows L2 Loc RZ
/-! ### the store's methods that may raise NoName -/
section
variable {P : Program} {w : World} {K : PySem.W.Frag} {mg : Str → Option Value} {base : Heap}
theorem scINo : FnScope ["self", "name"] ["self", "name"] (defScope sI_NoName) := ⟨rfl, rfl, rfl, by decide +kernel, rfl, by decide +kernel, by decide +kernel⟩
theorem scSK : FnScope ["self", "name"] ["self", "name"] (defScope sM_check_kept) := ⟨rfl, rfl, rfl, by decide +kernel, rfl, by decide +kernel, by decide +kernel⟩
theorem scST : FnScope ["self", "name"] ["self", "name"] (defScope sM_tree) := ⟨rfl, rfl, rfl, by decide +kernel, rfl, by decide +kernel, by decide +kernel⟩
theorem scSD : FnScope ["self", "name", "kept"] ["self", "name"] (defScope sM_drop) := ⟨rfl, rfl, rfl, by decide +kernel, rfl, by decide +kernel, by decide +kernel⟩
abbrev NoC (K : PySem.W.Frag) (mg : Str → Option Value) (cO iO : Addr) (dO : FuncData) : Prop := Cls1 K mg "NoName" "NoName.__init__" "name" sI_NoName cO iO dO
theorem ok_INo {f C : Addr} {fd : FuncData} {k : Nat} (F : Fun K "__init__" "NoName.__init__" sI_NoName f fd) : FnOk P w K mg base CX0 (k + 1) f fd ["self", "name"] (spInit1 K C "name") := by
  refine F.ok scINo (fun vs H Q E h => ?_) (fun cdv A outer s H vs Q E hr h => ?_)
  · obtain ⟨a, v, rfl, _⟩ := h
    rfl
  · obtain ⟨a, v, rfl, ox, ha, no, q⟩ := h
    refine ⟨_, pss_one (ps_ost (pv 0) (pv 1)), ?_⟩
    exact ⟨v, rfl, .ref a, rfl, a, C, rfl, ox, no, .inl ⟨ha, fun dx n ne => q dx n ne⟩⟩
/-- what is due where a name is not kept -/
def NoE (cO : Addr) (n : Str) (H : Hp) (E : XK) : Prop := ∀ H' d, Same H H' → H' d = none → E (.ref cO) (some d) (upd H' d (.xd [("name", .str n)]))
def spSK (C cO : Addr) : Sp := fun vs H Q E => ∃ (Z : Addr → Prop) (a L : Addr) (n : Str) (m : KS) (os : List KS), vs = [.ref a, .str n] ∧ StoV Z C H a L m os ∧ Nm n ∧ ((getS m n).isSome = true → ∀ H', Same H H' → Q .non H') ∧ (getS m n = none → NoE cO n H E)
def spST (C cO : Addr) : Sp := fun vs H Q E => ∃ (Z : Addr → Prop) (a L : Addr) (n : Str) (m : KS) (os : List KS), vs = [.ref a, .str n] ∧ StoV Z C H a L m os ∧ Nm n ∧ (∀ v, getS m n = some v → ∀ H', Same H H' → Q v H') ∧ (getS m n = none → NoE cO n H E)
def spSD (C cO : Addr) : Sp := fun vs H Q E => ∃ (Z : Addr → Prop) (a L : Addr) (n : Str) (m : KS) (os : List KS), vs = [.ref a, .str n] ∧ StoV Z C H a L m os ∧ Nm n ∧ (∀ b, Z b → H b ≠ none) ∧ os.length ≤ 100000 ∧ ((getS m n).isSome = true → ∀ H', StoV Z C H' a L (dropS m n) (os ++ [m]) → Fs a L H H' → Q .non H') ∧ (getS m n = none → NoE cO n H E)
theorem ok_SK (X : Facts K mg) (S : StoF K mg) {cO iO : Addr} {dO : FuncData} (N : NoC K mg cO iO dO) : FnOk P w K mg base (L2.CX P w) 3 S.uK S.vK ["self", "name"] (spSK S.C cO) := by
  have G := ok_isname (P := P) (w := w) (base := base) X
  have GI : FnOk P w K mg base CX0 1 iO dO ["self", "name"] (spInit1 K cO "name") := ok_INo N.F
  refine S.chk.F.okX scSK (fun vs H Q E h => ?_) (fun cdv A outer s H vs Q E hr h => ?_)
  · obtain ⟨Z, a, L, n, m, os, rfl, _⟩ := h
    rfl
  · obtain ⟨Z, a, L, n, m, os, rfl, hS, nm, q, qE⟩ := h
    have hu := hu_of hr
    have r1 := hr.mono (j := 1) (by omega)
    refine ⟨_, pss_one (ps_if (PW.pt (pw_or (pt_not (pt_val (pe_call G r1 (by rfl) X.gis_name X.fis_name.kp X.bis_name .nil pass0 (pa_cons (pv 1) pa_nil)))) (pw_or1 (pt_cmp (pc_dnotin hu (pv 1) (pe_fld (pv 0) rfl))))))
      (pss_one (ps_raise1 (te := tVar 1) rfl (takes_of rfl rfl rfl rfl) N GI hr (pv 1))) pss_nil), ?_⟩
    refine ⟨.str n, rfl, n, rfl, nm, fun H1 s1 => ⟨_, rfl, ?_⟩⟩
    obtain ⟨D, dx, ds, h1, h2, h3, h4, h5⟩ := (hS.same s1).get
    refine iteF ⟨.str n, rfl, .ref a, rfl, a, S.C, dx, _, _, rfl, h1, S.c, S.nK, flds_kept D L, D, _, rfl, .inl ⟨_, .inr n, .inl h2, rfl, rfl⟩, _, rfl, ?_⟩
    rw [ksget]
    cases hg : getS m n with
    | some x => exact iteF (q (by rw [hg]; rfl) _ s1)
    | none =>
      refine iteT ?_
      show tMkO cO _ [] (tCons (tVar 1) tNil) _ _ _
      refine ⟨.str n, rfl, ?_⟩
      exact mk_one N.ox N.no fun d n => qE hg H1 d s1 n
theorem ok_ST (X : Facts K mg) (S : StoF K mg) {cO iO : Addr} {dO : FuncData} (N : NoC K mg cO iO dO) : FnOk P w K mg base (L2.CX P w) 4 S.uT S.vT ["self", "name"] (spST S.C cO) := by
  have G := ok_SK (P := P) (w := w) (base := base) X S N
  refine S.tree.F.okX scST (fun vs H Q E h => ?_) (fun cdv A outer s H vs Q E hr h => ?_)
  · obtain ⟨Z, a, L, n, m, os, rfl, _⟩ := h
    rfl
  · obtain ⟨Z, a, L, n, m, os, rfl, hS, nm, q, qE⟩ := h
    have hu := hu_of hr
    obtain ⟨D, dx, ds, h1, h2, h3, h4, h5⟩ := hS.get
    refine ⟨_, pss_cons (ps_expr (pe_meth (E := E) (pv 0) S.c S.chk.M G hr S.chk.b .nil (passes_call (takes_of rfl rfl rfl rfl) fun _ _ _ _ h => h) (pa_cons (pv 1) pa_nil)))
      (pss_one (ps_ret (pe_dget hu (pe_fld (pv 0) rfl) (pv 1) (fun _ _ => rfl)))), ?_⟩
    refine ⟨.ref a, rfl, a, dx, _, rfl, h1, flds_no D L (by decide +kernel) (by decide +kernel), .str n, rfl, Z, a, L, n, m, os, rfl, hS, nm, fun hg H1 s1 => ?_, fun hg => qE hg⟩
    obtain ⟨v, hv⟩ := Option.isSome_iff_exists.mp hg
    refine ⟨.ref a, rfl, a, S.C, dx, _, _, rfl, s1 _ _ h1, S.c, S.nK, flds_kept D L, .str n, rfl, D, v, rfl, .inl ⟨kv m, .inr n, .inl (s1 _ _ h2), rfl, ?_⟩, q v hv _ s1⟩
    rw [ksget]
    exact hv.symm
theorem ok_SD (X : Facts K mg) (S : StoF K mg) {cO iO : Addr} {dO : FuncData} (N : NoC K mg cO iO dO) : FnOk P w K mg base (L2.CX P w) 4 S.uD S.vD ["self", "name"] (spSD S.C cO) := by
  have G := ok_SK (P := P) (w := w) (base := base) X S N
  have GG := ok_SG (P := P) (w := w) (base := base) S
  refine S.drop.F.okX scSD (fun vs H Q E h => ?_) (fun cdv A outer s H vs Q E hr h => ?_)
  · obtain ⟨Z, a, L, n, m, os, rfl, _⟩ := h
    rfl
  · obtain ⟨Z, a, L, n, m, os, rfl, hS, nm, hZ, lo, q, qE⟩ := h
    have hu := hu_of hr
    have r1 := hr.mono (j := 1) (by omega)
    obtain ⟨D, dx, ds, h1, h2, h3, h4, h5⟩ := hS.get
    refine ⟨_, pss_cons (ps_expr (pe_meth (E := E) (pv 0) S.c S.chk.M G hr S.chk.b .nil (passes_call (takes_of rfl rfl rfl rfl) fun _ _ _ _ h => h) (pa_cons (pv 1) pa_nil)))
      (pss_cons (ps_set (i := 2) scSD.nd rfl (.inl rfl) (pe_callTy call_dictD (by rfl) X.dict (by decide +kernel) (pa_cons (pe_fld (pv 0) rfl) pa_nil)))
      (pss_cons (ps_ddel (pv 2) (pv 1))
      (pss_one (ps_expr (pe_meth (pv 0) S.c S.chg.M GG r1 S.chg.b .nil pass0 (pa_cons (pv 2) pa_nil)))))), ?_⟩
    refine ⟨.ref a, rfl, a, dx, _, rfl, h1, flds_no D L (by decide +kernel) (by decide +kernel), .str n, rfl, Z, a, L, n, m, os, rfl, hS, nm, fun hg H1 s1 => ?_, fun hg => qE hg⟩
    refine ⟨.ref a, rfl, a, S.C, dx, _, _, rfl, s1 _ _ h1, S.c, S.nK, flds_kept D L, D, kv m, rfl, .inl (s1 _ _ h2), fun D' nD' => ?_⟩
    refine ⟨.ref D', rfl, .str n, rfl, D', kv m, .inr n, rfl, upd_same, rfl, by rw [ksget]; exact hg, ?_⟩
    rw [ksdrop, upd_upd]
    have s2 : Same H1 (upd H1 D' (.dK (kv (dropS m n)))) := sameN nD'
    have s12 := s1.trans s2
    exact ⟨.ref a, rfl, a, dx, _, rfl, s12 _ _ h1, flds_no D L (by decide +kernel) (by decide +kernel), .ref D', rfl, Z, a, L, D', m, dropS m n, os, rfl, hS.same s12, upd_same, (fun z => z3 s1 (hZ D' z) nD'), lo, fun H' hS' fs => q hg _ hS' ((Fs.of s12).trans fs)⟩
end
end C64

set_option Elab.async false
set_option linter.all false
set_option maxRecDepth 100000
namespace C64
open PySem PySem.Spec PyProof.Rows L2 Loc RZ
/-! ### the word and the value of an error of a store -/
section
/-- what is known of the error classes -/
structure ErrN (K : PySem.W.Frag) (mg : Str → Option Value) where
  {cB : Addr} {cO : Addr} {cR : Addr} {cL : Addr} {cM : Addr} {cN : Addr} {iO : Addr} {dO : FuncData}
  gB : mg "BlockError" = some (.ref cB)
  gR : mg "NoRange" = some (.ref cR)
  gL : mg "TooLong" = some (.ref cL)
  gM : mg "TooMany" = some (.ref cM)
  gN : mg "BadName" = some (.ref cN)
  O : NoC K mg cO iO dO
  xO : PySem.W.exmOne K (.ref cO) (.ref cB) = some true
  OR : PySem.W.kitOne K (.ref cO) (.ref cR) = some false
  OL : PySem.W.kitAny K (.ref cO) [.ref cL, .ref cM] = some false
  OO : PySem.W.kitAny K (.ref cO) [.ref cN, .ref cO] = some true
  ON : PySem.W.kitOne K (.ref cO) (.ref cN) = some false
variable {K : PySem.W.Frag} {mg : Str → Option Value}
/-- the error that may come -/
def CauE (F : ErrN K mg) (Q : VK) : XK := fun cls d H => ∃ dd n, d = some dd ∧ cls = .ref F.cO ∧ H dd = some (.xd [("name", .str n)]) ∧ ∀ H' t, Same H H' → H' t = some (.tup [.str "none", .str n]) → Q (.ref t) H'
def TCau (F : ErrN K mg) : (XK → Hp → VK → Prop) → Hp → VK → Prop := fun tl H Q => ∀ R : VK, (∀ v H', (∀ t, H' t = none → Q (.ref t) (upd H' t (.tup [.str "returned", v]))) → R v H') → tl (CauE F Q) H R
abbrev nmCau : List Str := ["ask", "caught", "error"]
theorem scCau : FnScope nmCau ["ask"] (defScope s__law_caught) := ⟨rfl, rfl, rfl, by decide +kernel, rfl, by decide +kernel, by decide +kernel⟩
variable {X : Cx}
set_option maxHeartbeats 0 in
theorem cau_gives (F : ErrN X.K X.mg) {q : Str} {g : Addr} {cdg : Value} (mi : X.mg "isinstance" = none) :
    LamX.GivesTo X nmCau "_law_caught" (defScope s__law_caught) g cdg (defBody s__law_caught) "ask" q (TCau F) := by
  intro f c' s H Q tl act hc h
  refine ⟨_, pss_cons (ps_set (i := 1) scCau.nd rfl (.inl rfl) pe_non)
    (pss_cons (ps_try_keep (i := 2) (j := 1) (c := .ref F.cB) (Wout := fun _ _ _ _ => False) (tb := fun W D σ H => ∃ Ech : XK, (∀ cls d σ' H', Ech cls d H' → σ'.length = 3 → W cls d σ' H') ∧ σ[0]? = some (some (.ref f)) ∧ H c' = some (LamX.CodeO c' q) ∧ tl Ech H (fun v H1 => 2 ≤ sizeLine ∧ ∀ p, H1 p = none → D.rt (.ref p) (upd H1 p (.tup [.str "returned", v]))))
        rfl rfl scCau.nd rfl rfl rfl rfl (show 2 < 3 by decide) (by decide) rfl ⟨rfl, by decide, .inl F.gB⟩ LamX.takes0 (by decide) (by decide) (fun W pn xe tk _ => ?body))
    (pss_cons (ps_if (pt_val (pe_callB call_isV (by rfl) mi PyProof.Rows.boot_isinstance (pa_cons (pv 1) (pa_cons (pe_glob (v := .ref F.cR) (by rfl) F.gR rfl) pa_nil)))) pss_never pss_nil)
    (pss_cons (ps_if (pt_val (pe_callB call_isVT (by rfl) mi PyProof.Rows.boot_isinstance (pa_cons (pv 1) (pa_cons (pe_tup (pa_cons (pe_glob (v := .ref F.cL) (by rfl) F.gL rfl) (pa_cons (pe_glob (v := .ref F.cM) (by rfl) F.gM rfl) pa_nil))) pa_nil)))) pss_never pss_nil)
    (pss_cons (ps_if (pt_val (pe_callB call_isVT (by rfl) mi PyProof.Rows.boot_isinstance (pa_cons (pv 1) (pa_cons (pe_tup (pa_cons (pe_glob (v := .ref F.cN) (by rfl) F.gN rfl) (pa_cons (pe_glob (v := .ref F.cO) (by rfl) F.O.g rfl) pa_nil))) pa_nil))))
      (pss_one (ps_ret (pe_tup (pa_cons (pe_ifExp (pt_val (pe_callB call_isV (by rfl) mi PyProof.Rows.boot_isinstance (pa_cons (pv 1) (pa_cons (pe_glob (v := .ref F.cN) (by rfl) F.gN rfl) pa_nil)))) pe_str pe_str) (pa_cons (pe_errf (pv 1)) pa_nil))))) pss_nil)
    pss_never)))), ?_⟩
  case body =>
    refine ⟨fun pins s' σ H' D I h' => ?_⟩
    obtain ⟨Ech, hW, h1, h2, h3⟩ := h'
    exact (pss_one (ps_ret (pe_tup (pa_cons pe_str (pa_cons (act (fun cls d σ H => σ.length = 3 → W cls d σ H) pn xe Ech _ _ (takes_len rfl tk) hW) pa_nil))))).run pins s' σ H' D I ⟨h1, h2, h3⟩
  refine ⟨CauE F Q, fun cls d σ' H' he hl => ?_, rfl, hc, h _ fun v H' hq => ⟨by decide, hq⟩⟩
  match σ', hl with
  | [s0, s1, s2], _ =>
    obtain ⟨dd, n, rfl, rfl, hx, k⟩ := he
    refine ⟨true, F.xO, fun _ => ⟨F.cO, dd, rfl, rfl, fun a na => ?_⟩, fun z => nomatch z⟩
    have sA := sameN (o := ErrO F.cO dd a) na
    have er : Err (upd H' a (ErrO F.cO dd a)) a F.cO [("name", .str n)] := ⟨dd, upd_same, sA _ _ hx⟩
    generalize upd H' a (ErrO F.cO dd a) = H1 at sA er
    refine ⟨.ref a, rfl, a, F.cO, _, .ref F.cR, .ref F.cR, false, rfl, er, F.O.er, .own _, F.OR, _, rfl, iteF ?_⟩
    refine ⟨.ref a, rfl, (show 2 ≤ sizeLine from by decide), fun t nt => ⟨a, F.cO, t, _, [.ref F.cL, .ref F.cM], [.ref F.cL, .ref F.cM], false, rfl, er.same (sameN nt), F.O.er, upd_same, .cons (.own _) (.cons (.own _) .nil), F.OL, _, rfl, iteF ?_⟩⟩
    have s2 := sA.trans (sameN (o := .tup [.ref F.cL, .ref F.cM]) nt)
    have er2 := er.same (sameN (o := .tup [.ref F.cL, .ref F.cM]) nt)
    generalize upd H1 t (.tup [.ref F.cL, .ref F.cM]) = H2 at s2 er2
    refine ⟨.ref a, rfl, (show 2 ≤ sizeLine from by decide), fun t2 nt2 => ⟨a, F.cO, t2, _, [.ref F.cN, .ref F.cO], [.ref F.cN, .ref F.cO], true, rfl, er2.same (sameN nt2), F.O.er, upd_same, .cons (.own _) (.cons (.own _) .nil), F.OO, _, rfl, iteT ?_⟩⟩
    have s3 := s2.trans (sameN (o := .tup [.ref F.cN, .ref F.cO]) nt2)
    have er3 := er2.same (sameN (o := .tup [.ref F.cN, .ref F.cO]) nt2)
    generalize upd H2 t2 (.tup [.ref F.cN, .ref F.cO]) = H3 at s3 er3
    refine ⟨.ref a, rfl, a, F.cO, _, .ref F.cN, .ref F.cN, false, rfl, er3, F.O.er, .own _, F.ON, _, rfl, iteF ?_⟩
    refine ⟨.ref a, rfl, a, F.cO, [("name", .str n)], .str n, rfl, er3, F.O.er, F.O.no, rfl, (show 2 ≤ sizeLine from by decide), fun t4 nt4 => ?_⟩
    exact k _ t4 (s3.trans (sameN nt4)) upd_same
end
end C64

set_option Elab.async false
set_option linter.all false
/-! ### sorted texts: one order only -/
namespace Loc
open PySem PySem.Spec PyProof.Rows L2
def leS (a b : Str) : Prop := a.cps.toList ≤ b.cps.toList
theorem le_of_lt {x y : Str} (h : (!ltCps y.cps.toList x.cps.toList) = true) : leS x y := by
  rw [ltCps_eq] at h
  unfold leS
  have : ¬ y.cps.toList < x.cps.toList := by simpa using h
  exact List.not_lt.mp this
theorem rising_pw : ∀ (r : List Str) (x : Str), risingS x r = true → List.Pairwise leS (x :: r)
  | [], x, _ => List.pairwise_singleton _ _
  | y :: r, x, h => by
    rw [risingS.eq_2, Bool.and_eq_true] at h
    have hx := le_of_lt h.1
    have ih := rising_pw r y h.2
    refine List.pairwise_cons.mpr ⟨fun z hz => ?_, ih⟩
    rcases List.mem_cons.mp hz with rfl | hz
    · exact hx
    · exact List.le_trans hx ((List.pairwise_cons.mp ih).1 z hz)
theorem sorted_pw {xs : List Str} (h : sortedS xs = true) : List.Pairwise leS xs := by
  cases xs with
  | nil => exact List.Pairwise.nil
  | cons x r => exact rising_pw r x h
theorem sorted_one {xs ys : List Str} (h : xs.Perm ys) (hx : sortedS xs = true) (hy : sortedS ys = true) : xs = ys := by
  refine List.Perm.eq_of_pairwise (le := leS) (fun a b _ _ h1 h2 => ?_) (sorted_pw hx) (sorted_pw hy) h
  have e : a.cps.toList = b.cps.toList := List.le_antisymm h1 h2
  obtain ⟨a⟩ := a
  obtain ⟨b⟩ := b
  congr 1
  exact Array.ext' (by simpa using e)
end Loc
/-! ### two dicts with the same keys -/
namespace Loc
open PySem PySem.Spec PyProof.Rows L2
section
variable {R : Str × V → Str × V → Prop} (hR : ∀ x y, R x y → x.1 = y.1)
include hR
theorem pk_keys : ∀ {m mv : KS}, Paired R m mv → m.map (·.1) = mv.map (·.1)
  | _, _, .nil => rfl
  | _, _, .cons a t => by
    rw [List.map_cons, List.map_cons, hR _ _ a, pk_keys t]
theorem pk_get {n : Str} : ∀ {m mv : KS}, Paired R m mv → (getS m n = none ∧ getS mv n = none) ∨ ∃ u v, getS m n = some u ∧ getS mv n = some v ∧ R (n, u) (n, v)
  | _, _, .nil => .inl ⟨rfl, rfl⟩
  | _, _, .cons (a := x) (b := y) a t => by
    have e := hR _ _ a
    unfold getS valV
    rw [List.find?_cons, List.find?_cons]
    by_cases h : x.1 = n
    · rw [decide_eq_true h, decide_eq_true (e ▸ h)]
      refine .inr ⟨x.2, y.2, rfl, rfl, ?_⟩
      have e1 : x = (n, x.2) := by rw [← h]
      have e2 : y = (n, y.2) := by rw [← h, e]
      rw [← e1, ← e2]
      exact a
    · rw [decide_eq_false h, decide_eq_false (fun z => h (e ▸ z))]
      exact pk_get t
theorem pk_any {n : Str} : ∀ {m mv : KS}, Paired R m mv → (m.any fun p => decide (p.1 = n)) = (mv.any fun p => decide (p.1 = n))
  | _, _, .nil => rfl
  | _, _, .cons a t => by
    rw [List.any_cons, List.any_cons, hR _ _ a, pk_any t]
theorem pk_set {n : Str} {u v : V} (h : R (n, u) (n, v)) : ∀ {m mv : KS}, Paired R m mv → Paired R (m.map fun p => if p.1 = n then (p.1, u) else p) (mv.map fun p => if p.1 = n then (p.1, v) else p)
  | _, _, .nil => .nil
  | _, _, .cons (a := x) (b := y) a t => by
    have e := hR _ _ a
    rw [List.map_cons, List.map_cons]
    refine .cons ?_ (pk_set h t)
    by_cases c : x.1 = n
    · rw [if_pos c, if_pos (e ▸ c), c, ← e, c]
      exact h
    · rw [if_neg c, if_neg (fun z => c (e ▸ z))]
      exact a
theorem pk_put {n : Str} {u v : V} {m mv : KS} (h : R (n, u) (n, v)) (p : Paired R m mv) : Paired R (putS m n u) (putS mv n v) := by
  unfold putS putK
  rw [← pk_any hR (n := n) p]
  split
  · exact pk_set hR h p
  · exact paired_app p (.cons h .nil)
theorem pk_drop {n : Str} : ∀ {m mv : KS}, Paired R m mv → Paired R (dropS m n) (dropS mv n)
  | _, _, .nil => .nil
  | _, _, .cons (a := x) (b := y) a t => by
    have e := hR _ _ a
    have ih := pk_drop (n := n) t
    unfold dropS dropK at ih ⊢
    rw [List.filter_cons, List.filter_cons]
    by_cases c : x.1 = n
    · rw [if_neg (by simp [c]), if_neg (by simp [← e, c])]
      exact ih
    · rw [if_pos (by simp [c]), if_pos (by rw [← e]; simp [c])]
      exact .cons a ih
end
theorem dropS_len {m : KS} {n : Str} : (dropS m n).length ≤ m.length := List.length_filter_le _ _
end Loc
namespace Loc
open PySem
theorem paired_left {α β : Type} {R : α → β → Prop} {S : α → Prop} (h : ∀ x y, R x y → S x) : ∀ {xs : List α} {ys : List β}, Paired R xs ys → ∀ x ∈ xs, S x
  | _, _, .nil, x, hx => absurd hx List.not_mem_nil
  | _, _, .cons a t, x, hx => by
    rcases List.mem_cons.mp hx with rfl | hx
    · exact h _ _ a
    · exact paired_left h t x hx
end Loc
namespace Loc
open PySem L2
theorem getS_none {n : Str} : ∀ {m : KS}, getS m n = none → n ∉ m.map (·.1)
  | [], _ => by simp
  | x :: r, h => by
    unfold getS valV at h
    rw [List.find?_cons] at h
    by_cases c : x.1 = n
    · rw [decide_eq_true c] at h
      cases h
    · rw [decide_eq_false c] at h
      rw [List.map_cons, List.mem_cons]
      exact fun z => z.elim (fun e => c e.symm) (getS_none (m := r) h)
end Loc
namespace Loc
open PySem L2
theorem get_put {m : KS} {n : Str} {v : V} : getS (putS m n v) n = some v := by
  unfold getS putS
  rw [valV_put, if_pos rfl]
theorem get_drop {m : KS} {n : Str} : getS (dropS m n) n = none := by
  unfold getS valV dropS dropK
  rw [Option.map_eq_none_iff, List.find?_eq_none]
  intro x hx
  have := (List.mem_filter.mp hx).2
  simpa using this
end Loc

set_option Elab.async false
set_option linter.all false
set_option maxRecDepth 100000
namespace Loc
open PySem PySem.Spec PyProof.Rows L2
/-! ### data of any kind: dicts among them -/
def keyD : Key → PyData
  | .inl i => .int i
  | .inr x => .str x
mutual
inductive Dq (K : PySem.W.Frag) (H : Hp) : V → PyData → Prop
  | non : Dq K H .non .none
  | bl (b : Bool) : Dq K H (.bl b) (.bool b)
  | int (i : Int) : Dq K H (.int i) (.int i)
  | str (x : Str) : Dq K H (.str x) (.str x)
  | lst {a : Addr} {xs : List V} {ds : List PyData} : SqL K H a xs → DqAll K H xs ds → Dq K H (.ref a) (.list ds)
  | tup {a : Addr} {xs : List V} {ds : List PyData} : SqT K H a xs → DqAll K H xs ds → Dq K H (.ref a) (.tuple ds)
  | dct {a : Addr} {kvs : List (Key × V)} {ps : List (PyData × PyData)} : H a = some (.dK kvs) → DqKv K H kvs ps → Dq K H (.ref a) (.dict ps)
inductive DqAll (K : PySem.W.Frag) (H : Hp) : List V → List PyData → Prop
  | nil : DqAll K H [] []
  | cons {v : V} {vs : List V} {d : PyData} {ds : List PyData} : Dq K H v d → DqAll K H vs ds → DqAll K H (v :: vs) (d :: ds)
inductive DqKv (K : PySem.W.Frag) (H : Hp) : List (Key × V) → List (PyData × PyData) → Prop
  | nil : DqKv K H [] []
  | cons {k : Key} {v : V} {d : PyData} {kvs : List (Key × V)} {ps : List (PyData × PyData)} : Dq K H v d → DqKv K H kvs ps → DqKv K H ((k, v) :: kvs) ((keyD k, d) :: ps)
end
section
variable {X : Cx} {pins : List (Addr × Obj)} {σ : L2.St} {H : Hp} {s : Shared}
/-- what the reading gives: the data, and its text -/
def RdK (P : Program) (w : World) (h : Heap) (u : Value) (d : PyData) : Prop :=
  ∃ as, Reads h u d as ∧ ∃ bs, ReadAtMost h d.depth bs ∧ ReprK P w bs h d.depth u d.shown
def RdA (P : Program) (w : World) (h : Heap) (us : List Value) (ds : List PyData) : Prop :=
  ∃ as, ReadsAll h us ds as ∧ ∃ bs, ReadAtMost h (PyData.depthAll ds) bs ∧ ReprAllK P w bs h (PyData.depthAll ds) us (PyData.shownAll ds)
theorem RdA.nil {P : Program} {w : World} {h : Heap} : RdA P w h [] [] := ⟨_, .nil, [], (fun _ z => nomatch z), by rw [PyData.shownAll]; exact .nil⟩
theorem RdA.cons {P : Program} {w : World} {h : Heap} {u : Value} {d : PyData} {us : List Value} {ds : List PyData} (x : RdK P w h u d) (y : RdA P w h us ds) : RdA P w h (u :: us) (d :: ds) := by
  obtain ⟨a1, r1, b1, m1, k1⟩ := x
  obtain ⟨a2, r2, b2, m2, k2⟩ := y
  refine ⟨_, .cons r1 r2, b1 ++ b2, ?_, ?_⟩
  · rw [PyData.depthAll]
    exact (m1.mono (Nat.le_max_left _ _)).append (m2.mono (Nat.le_max_right _ _))
  · rw [PyData.depthAll, PyData.shownAll]
    exact .cons ((k1.more fun b z => List.mem_append_left _ z).level_le (Nat.le_max_left _ _)) (k2.more_le (fun b z => List.mem_append_right _ z) (Nat.le_max_right _ _))
theorem keyD_rd {P : Program} {w : World} {h : Heap} {k : Key} {u : Value} (e : keyIs k u = true) (hs : (keyD k).showable = true) (hz : (keyD k).shown.length ≤ sizeLine) : RdK P w h u (keyD k) := by
  rcases keyIs_shape e with ⟨i, t, rfl, rfl⟩ | ⟨x, t, rfl, rfl⟩
  · refine ⟨_, .int i t, [], (fun _ z => nomatch z), ?_⟩
    simp only [keyD, PyData.shown]
    exact .of_is (ReprIs.int t (by simpa [keyD, PyData.showable] using hs)) _ _ _
  · refine ⟨_, .str x t, [], (fun _ z => nomatch z), ?_⟩
    simp only [keyD, PyData.shown] at hz ⊢
    exact .of_is (ReprIs.str x t hz) _ _ _
theorem RdK.lst {P : Program} {w : World} {h : Heap} {a : Addr} {o : Obj} {vs : Array Value} {n : Nat} {ds : List PyData} (ho : h.get? a = some o) (hc : o.cls = .type "list") (hd : o.data = .seq vs n)
    (y : RdA P w h vs.toList ds) : RdK P w h (.ref a) (.list ds) := by
  obtain ⟨as, r, bs, m, k⟩ := y
  have rr : Reads h (.ref a) (.list ds) _ := .list ho hc hd r
  have na : a ∉ bs := not_mem_of_deeper rr (by simp only [PyData.depth]; omega) m
  refine ⟨_, rr, a :: bs, ReadAtMost.cons rr (by simp only [PyData.depth]; omega) m, ?_⟩
  simp only [PyData.depth, PyData.shown]
  obtain ⟨l⟩ := vs
  cases l with
  | nil =>
    have r' : ReadsAll h [] ds _ := r
    cases r'
    rw [PyData.shownAll, listText_nil]
    exact ReprK.listEmpty ho hc hd
  | cons x l => exact ReprK.list ho hc hd na (by simpa using k.length_eq) (fun i y e => k.item i y (by simpa using e))
theorem RdK.tup {P : Program} {w : World} {h : Heap} {a : Addr} {o : Obj} {vs : Array Value} {n : Nat} {ds : List PyData} (ho : h.get? a = some o) (hc : o.cls = .type "tuple") (hd : o.data = .seq vs n)
    (y : RdA P w h vs.toList ds) : RdK P w h (.ref a) (.tuple ds) := by
  obtain ⟨as, r, bs, m, k⟩ := y
  have rr : Reads h (.ref a) (.tuple ds) _ := .tuple ho hc hd r
  have na : a ∉ bs := not_mem_of_deeper rr (by simp only [PyData.depth]; omega) m
  refine ⟨_, rr, a :: bs, ReadAtMost.cons rr (by simp only [PyData.depth]; omega) m, ?_⟩
  simp only [PyData.depth, PyData.shown]
  exact ReprK.tuple ho hc hd na k
theorem RdK.dct {P : Program} {w : World} {h : Heap} {a : Addr} {o : Obj} {es : Array DictEntry} {n : Nat} {ps : List (PyData × PyData)} (ho : h.get? a = some o) (hc : o.cls = .type "dict") (hd : o.data = .dict es n)
    (hm : (a == sysModules) = false) (y : RdA P w h (es.toList.map (·.key)) (ps.map (·.1))) (z : RdA P w h (es.toList.map (·.val)) (ps.map (·.2))) : RdK P w h (.ref a) (.dict ps) := by
  obtain ⟨a1, r1, b1, m1, k1⟩ := y
  obtain ⟨a2, r2, b2, m2, k2⟩ := z
  have rr : Reads h (.ref a) (.dict ps) _ := .dict ho hc hd r1 r2
  have m : ReadAtMost h (PyData.depthKv ps) (b1 ++ b2) := (m1.mono (PyData.depthAll_keys_le ps)).append (m2.mono (PyData.depthAll_vals_le ps))
  have na : a ∉ b1 ++ b2 := not_mem_of_deeper rr (by simp only [PyData.depth]; omega) m
  refine ⟨_, rr, a :: (b1 ++ b2), ReadAtMost.cons rr (by simp only [PyData.depth]; omega) m, ?_⟩
  simp only [PyData.depth, PyData.shown, PyData.shownKv_eq]
  refine ReprK.dict ho hc hd hm na (ReprEntriesK.of_two _ _ _ (k1.more_le (fun b q => ?_) (PyData.depthAll_keys_le ps)) (k2.more_le (fun b q => ?_) (PyData.depthAll_vals_le ps)))
  · exact List.mem_append_left _ q
  · exact List.mem_append_right _ q
theorem shown_in {ds : List PyData} {m : Nat} (e : ∀ t ∈ PyData.shownAll ds, t.length ≤ m) {d : PyData} (h : d ∈ ds) : d.shown.length ≤ m := by
  induction ds with
  | nil => exact nomatch h
  | cons x r ih =>
    rw [PyData.shownAll] at e
    rcases List.mem_cons.mp h with rfl | h
    · exact e _ List.mem_cons_self
    · exact ih (fun t ht => e t (List.mem_cons_of_mem _ ht)) h
mutual
theorem Dq.rd (I : Inv X pins σ H s) : ∀ (d : PyData) (v : V) (u : Value), Dq X.K H v d → RelV v u → d.showable = true → d.shown.length ≤ sizeLine → RdK X.prog X.w s.heap u d
  | .none, _, _, h, r, _, _ => by
    cases h
    cases r
    refine ⟨_, .none, [], (fun _ z => nomatch z), ?_⟩
    simp only [PyData.shown]
    exact .of_is ReprIs.none _ _ _
  | .bool b, _, _, h, r, _, _ => by
    cases h
    cases r
    refine ⟨_, .bool b, [], (fun _ z => nomatch z), ?_⟩
    simp only [PyData.shown]
    exact .of_is (ReprIs.bool b) _ _ _
  | .int i, _, _, h, r, hs, _ => by
    cases h
    obtain ⟨t, rfl⟩ := r
    exact keyD_rd (k := .inl i) (keyIs_int i t) hs (by simp only [keyD, PyData.shown]; exact int_text_fits (by simpa [PyData.showable] using hs))
  | .str x, _, _, h, r, hs, hz => by
    cases h
    obtain ⟨t, rfl⟩ := r
    exact keyD_rd (k := .inr x) (keyIs_str x t) hs hz
  | .list ds, _, _, h, r, hs, hz => by
    cases h with
    | lst hq ha =>
      cases r
      obtain ⟨its, rv, ⟨o, n, ho, hc, _, hd⟩, _⟩ := I.list hq
      refine RdK.lst ho hc hd (Dq.rdAll I ds _ its ha rv (by simpa [PyData.showable] using hs) fun t ht => ?_)
      rw [PyData.shown] at hz
      exact Nat.le_trans (listText_mem_le ht) hz
  | .tuple ds, _, _, h, r, hs, hz => by
    cases h with
    | tup hq ha =>
      cases r
      obtain ⟨its, rv, ⟨o, ho, hc, n, hd⟩, _⟩ := I.tuple hq
      refine RdK.tup ho hc hd (Dq.rdAll I ds _ its ha rv (by simpa [PyData.showable] using hs) fun t ht => ?_)
      rw [PyData.shown] at hz
      exact Nat.le_trans (tupleText_mem_le ht) hz
  | .dict ps, _, _, h, r, hs, hz => by
    cases h with
    | dct hq ha =>
      cases r
      obtain ⟨_, hm, vs, kv, o, es, n, ho, hx, hd, _, hp, _⟩ := dk_rd I.hok (.inl hq)
      have hz' : ∀ t ∈ PyData.shownKv ps, t.length ≤ sizeLine := fun t ht => by
        rw [PyData.shown] at hz
        exact Nat.le_trans (dictText_mem_le ht) hz
      obtain ⟨y, z⟩ := Dq.rdKv I ps _ vs es.toList ha kv hp (by simpa [PyData.showable] using hs) hz'
      exact RdK.dct ho hx.1 hd hm y z
theorem Dq.rdAll (I : Inv X pins σ H s) : ∀ (ds : List PyData) (vs : List V) (us : List Value), DqAll X.K H vs ds → Vals vs us → PyData.showableAll ds = true → (∀ t ∈ PyData.shownAll ds, t.length ≤ sizeLine) → RdA X.prog X.w s.heap us ds
  | [], _, _, h, r, _, _ => by
    cases h
    cases r
    exact .nil
  | d :: ds, _, _, h, r, hs, hz => by
    cases h with
    | cons h1 h2 =>
      cases r with
      | cons r1 r2 =>
        have hs' : d.showable = true ∧ PyData.showableAll ds = true := by simpa [PyData.showableAll] using hs
        rw [PyData.shownAll] at hz
        exact RdA.cons (Dq.rd I d _ _ h1 r1 hs'.1 (hz _ List.mem_cons_self)) (Dq.rdAll I ds _ _ h2 r2 hs'.2 fun t ht => hz t (List.mem_cons_of_mem _ ht))
theorem Dq.rdKv (I : Inv X pins σ H s) : ∀ (ps : List (PyData × PyData)) (kvs : List (Key × V)) (vs : List (Key × Value)) (es : List DictEntry), DqKv X.K H kvs ps → KV kvs vs → Pairs (mixKind X.prog X.w) es vs →
    PyData.showableKv ps = true → (∀ t ∈ PyData.shownKv ps, t.length ≤ sizeLine) → RdA X.prog X.w s.heap (es.map (·.key)) (ps.map (·.1)) ∧ RdA X.prog X.w s.heap (es.map (·.val)) (ps.map (·.2))
  | [], _, _, _, h, r, p, _, _ => by
    cases h
    cases r
    cases p
    exact ⟨.nil, .nil⟩
  | (kd, d) :: ps, _, _, _, h, r, p, hs, hz => by
    cases h with
    | cons h1 h2 =>
      cases r with
      | cons r1 r2 =>
        cases p with
        | cons p1 p2 p3 =>
          obtain ⟨e1, e2⟩ := r1
          rw [PyData.showableKv] at hs
          have hs' := (Bool.and_eq_true _ _).mp hs
          have hs1 := (Bool.and_eq_true _ _).mp hs'.1
          rw [PyData.shownKv] at hz
          have hl := hz _ List.mem_cons_self
          rw [strLen_append, strLen_append] at hl
          obtain ⟨y, z⟩ := Dq.rdKv I ps _ _ _ h2 r2 p3 hs'.2 fun t ht => hz t (List.mem_cons_of_mem _ ht)
          refine ⟨RdA.cons (keyD_rd ?_ hs1.1 (by omega)) y, RdA.cons ?_ z⟩
          · dsimp only at e1 ⊢
            rw [e1]
            exact p1
          · dsimp only at p2 e2 ⊢
            rw [p2]
            exact Dq.rd I d _ _ h1 e2 hs1.2 (by omega)
end
end
/-- repr(v), v data of any kind that a heap bears -/
def rRepQ (K : PySem.W.Frag) : List V → Hp → VK → Prop := fun xs H Q => ∃ v d, xs = [v] ∧ Dq K H v d ∧
  d.showable = true ∧ d.depth ≤ 62 ∧ d.shown.length ≤ sizeLine ∧ Q (.str d.shown) H
theorem call_repQ {X : Cx} {k : Nat} (hr : Room k X.A) (hg : X.A.guards = some []) : CallR X (.builtin "repr") (rRepQ X.K) := by
  intro pins s σ H xs us Q I r h
  obtain ⟨v, d, rfl, hd, h1, h3, h4, q⟩ := h
  obtain ⟨u, rfl, ru⟩ := vals1 r
  have hu := hr.units
  have hg1 : X.A.in1.guards = some [] := hg
  match d, hd, h1, h3, h4, q with
  | .none, hd, _, _, _, q =>
    cases hd
    cases ru
    exact P.repr_of_none ⟨.str _, H, I.tok _, ⟨_, rfl⟩, by rw [PyData.shown] at q; exact q⟩
  | .bool b, hd, _, _, _, q =>
    cases hd
    cases ru
    exact P.repr_of_bool ⟨.str _, H, I.tok _, ⟨_, rfl⟩, by rw [PyData.shown] at q; exact q⟩
  | .int i, hd, h1, _, _, q =>
    cases hd
    obtain ⟨t, rfl⟩ := ru
    exact P.repr_of_int (by simpa [PyData.showable] using h1) ⟨.str _, H, I.tok _, ⟨_, rfl⟩, by rw [PyData.shown] at q; exact q⟩
  | .str x, hd, _, _, h4, q =>
    cases hd
    obtain ⟨t, rfl⟩ := ru
    exact P.repr_of_str ⟨.str _, H, I.tok _, ⟨_, rfl⟩, by rw [PyData.shown] at q; exact q⟩ (by rw [PyData.shown] at h4; exact h4)
  | .list ds, hd, h1, h3, h4, q =>
    cases hd with
    | lst hq ha =>
      cases ru
      obtain ⟨its, rv, ⟨o, n, ho, hc, _, hd⟩, _⟩ := I.list hq
      rw [PyData.shown] at h4 q
      obtain ⟨as, r, bs, m, k⟩ := Dq.rdAll I ds _ its ha rv (by simpa [PyData.showable] using h1) fun t ht => Nat.le_trans (listText_mem_le ht) h4
      have rr : Reads s.heap _ (.list ds) _ := .list ho hc hd r
      have na := not_mem_of_deeper rr (by simp only [PyData.depth]; omega) m
      simp only [PyData.depth] at h3
      refine call_repr_slot (by omega) ⟨o, ho, hc⟩ F.slot_list_repr.toG ?_
      cases its with
      | nil =>
        cases r
        rw [PyData.shownAll, listText_nil] at q
        exact call_list_repr_empty ⟨o, ho, hc⟩ ho hd ⟨_, _, rfl, .str _, H, I.kept (fun _ _ e => e), ⟨_, rfl⟩, q⟩
      | cons x l =>
        exact call_list_reprK ho hc hd na (by simpa using k.length_eq) (fun i y e => k.item i y (by simpa using e)) hg1 (fun b _ => Clear.nil b) (by show X.A.units + 1 + _ < cLine; omega) (fun _ _ e => e)
          (fun h' u tk hk => ⟨_, _, rfl, .str _, H, I.kept hk, ⟨_, rfl⟩, q⟩) h4
  | .tuple ds, hd, h1, h3, h4, q =>
    cases hd with
    | tup hq ha =>
      cases ru
      obtain ⟨its, rv, ⟨o, ho, hc, n, hd⟩, _⟩ := I.tuple hq
      rw [PyData.shown] at h4 q
      obtain ⟨as, r, bs, m, k⟩ := Dq.rdAll I ds _ its ha rv (by simpa [PyData.showable] using h1) fun t ht => Nat.le_trans (tupleText_mem_le ht) h4
      have rr : Reads s.heap _ (.tuple ds) _ := .tuple ho hc hd r
      have na := not_mem_of_deeper rr (by simp only [PyData.depth]; omega) m
      simp only [PyData.depth] at h3
      refine call_repr_slot (by omega) ⟨o, ho, hc⟩ F.slot_tuple_repr ?_
      exact call_tuple_reprK ho hc hd na k hg1 (fun b _ => Clear.nil b) (by show X.A.units + 1 + _ < cLine; omega) (fun _ _ e => e)
          (fun h' u tk hk => ⟨_, _, rfl, .str _, H, I.kept hk, ⟨_, rfl⟩, q⟩) h4
  | .dict ps, hd, h1, h3, h4, q =>
    cases hd with
    | dct hq ha =>
      cases ru
      obtain ⟨_, hm, vs, kv, o, es, n, ho, hx, hd, _, hp, _⟩ := dk_rd I.hok (.inl hq)
      rw [PyData.shown] at h4 q
      obtain ⟨⟨a1, r1, b1, m1, k1⟩, a2, r2, b2, m2, k2⟩ := Dq.rdKv I ps _ vs es.toList ha kv hp (by simpa [PyData.showable] using h1) fun t ht => Nat.le_trans (dictText_mem_le ht) h4
      have rr : Reads s.heap _ (.dict ps) _ := .dict ho hx.1 hd r1 r2
      have m : ReadAtMost s.heap (PyData.depthKv ps) (b1 ++ b2) := (m1.mono (PyData.depthAll_keys_le ps)).append (m2.mono (PyData.depthAll_vals_le ps))
      have na := not_mem_of_deeper rr (by simp only [PyData.depth]; omega) m
      simp only [PyData.depth] at h3
      rw [PyData.shownKv_eq] at h4 q
      refine call_repr_slot (by omega) ⟨o, ho, hx.1⟩ F.slot_dict_repr ?_
      exact call_dict_reprK ho hx.1 hd hm na (ReprEntriesK.of_two _ _ _ (k1.more_le (fun b z => List.mem_append_left _ z) (PyData.depthAll_keys_le ps)) (k2.more_le (fun b z => List.mem_append_right _ z) (PyData.depthAll_vals_le ps)))
        hg1 (fun b _ => Clear.nil b) (by show X.A.units + 1 + _ < cLine; omega) (fun _ _ e => e) (fun h' u tk hk => ⟨_, _, rfl, .str _, H, I.kept hk, ⟨_, rfl⟩, q⟩) h4
end Loc

set_option Elab.async false
set_option linter.all false
set_option maxRecDepth 100000
namespace Loc
open PySem PySem.Spec PyProof.Rows L2
/-! ### bools among numbers -/
def isNum : V → Int → Prop
  | .int i, j => i = j
  | .bl b, j => (if b = true then (1 : Int) else 0) = j
  | _, _ => False
section
variable {X : Cx}
def rNumI (f : Int → Int → Int) : R2 := fun x y H Q => ∃ i j, isNum x i ∧ y = .int j ∧ Q (.int (f i j)) H
theorem op_addB : OpR X (binaryOp .Add) (rNumI fun i j => i + j) := by
  intro pins s σ H x y v u Q I rx ry h
  obtain ⟨i, j, hx, rfl, q⟩ := h
  obtain ⟨t, rfl⟩ := ry
  cases x with
  | int a =>
    obtain rfl : a = i := hx
    obtain ⟨t', rfl⟩ := rx
    exact add_int ⟨.int _, H, I.tok _, ⟨_, rfl⟩, q⟩
  | bl b =>
    obtain rfl : (if b = true then (1 : Int) else 0) = i := hx
    cases rx
    exact PySem.IntBool.add_bool_int ⟨.int _, H, I.tok _, ⟨_, rfl⟩, q⟩
  | _ => exact (show False from hx).elim
theorem op_subB : OpR X (binaryOp .Sub) (rNumI fun i j => i - j) := by
  intro pins s σ H x y v u Q I rx ry h
  obtain ⟨i, j, hx, rfl, q⟩ := h
  obtain ⟨t, rfl⟩ := ry
  cases x with
  | int a =>
    obtain rfl : a = i := hx
    obtain ⟨t', rfl⟩ := rx
    exact sub_int ⟨.int _, H, I.tok _, ⟨_, rfl⟩, q⟩
  | bl b =>
    obtain rfl : (if b = true then (1 : Int) else 0) = i := hx
    cases rx
    exact PySem.IntBool.sub_bool_int ⟨.int _, H, I.tok _, ⟨_, rfl⟩, q⟩
  | _ => exact (show False from hx).elim
/-- str(x), x a number -/
def rStrB : List V → Hp → VK → Prop := fun xs H Q => (∃ i : Int, xs = [.int i] ∧ i.natAbs.log2 < 1920 ∧ Q (.str (toString i)) H) ∨ ∃ b : Bool, xs = [.bl b] ∧ Q (.str (if b then "True" else "False")) H
theorem call_strB : CallR X (.type "str") rStrB := by
  intro pins s σ H xs us Q I r h
  rcases h with ⟨i, rfl, hz, q⟩ | ⟨b, rfl, q⟩
  · obtain ⟨u, rfl, t, rfl⟩ := vals1 r
    exact PySem.P.str_of_int hz ⟨.str _, H, I.tok _, ⟨_, rfl⟩, q⟩
  · obtain ⟨u, rfl, r1⟩ := vals1 r
    cases r1
    exact PySem.P.str_of_bool ⟨.str _, H, I.tok _, ⟨_, rfl⟩, q⟩
/-- t != () -/
def rNeT0 (K : PySem.W.Frag) : R2 := fun x y H Q => ∃ a b xs, x = .ref a ∧ y = .ref b ∧ SqT K H a xs ∧ SqT K H b [] ∧ Q (.bl (!xs.isEmpty)) H
theorem op_neT0 (hu : X.A.units + 64 < cLine) : OpR X (compareOp .NotEq) (rNeT0 X.K) := by
  intro pins s σ H x y v u Q I rx ry h
  obtain ⟨a, b, xs, rfl, rfl, ha, hb, q⟩ := h
  cases rx
  cases ry
  obtain ⟨its, r1, p1, _⟩ := I.tuple ha
  obtain ⟨its2, r2, p2, _⟩ := I.tuple hb
  cases r2
  refine SeqAt.RcNeAt.tuples (A := X.A) (e := fun _ => true) p1 p2 (by omega) (fun j h1 h2 => absurd h2 (Nat.not_lt_zero j)) _ _ _ _ ⟨.bl (!xs.isEmpty), H, I, ?_, q⟩
  have e := r1.length
  show Value.bool _ = Value.bool _
  cases xs with
  | nil =>
    cases r1
    rfl
  | cons x r =>
    cases r1
    rfl
end
/-! ### the heap beside some lists -/
open Classical in
noncomputable def wo (S : Addr → Prop) (H : Hp) : Hp := fun b => if S b then none else H b
/-- lists stand there -/
def Kp (S : Addr → Prop) (H : Hp) : Prop := ∀ a, S a → ∃ ys, H a = some (.lst ys)
theorem wo_ne {S : Addr → Prop} {b : Addr} {H : Hp} (h : ¬ S b) : wo S H b = H b := by
  unfold wo
  rw [if_neg h]
theorem wo_in {S : Addr → Prop} {b : Addr} {H : Hp} (h : S b) : wo S H b = none := by
  unfold wo
  rw [if_pos h]
theorem wo_same {S : Addr → Prop} {H : Hp} : Same (wo S H) H := fun b o h => by
  by_cases e : S b
  · rw [wo_in e] at h
    cases h
  · rw [wo_ne e] at h
    exact h
theorem wo_up {S : Addr → Prop} {H H' : Hp} (s : Same H H') : Same (wo S H) (wo S H') := fun b o h => by
  by_cases e : S b
  · rw [wo_in e] at h
    cases h
  · rw [wo_ne e] at h ⊢
    exact s b o h
theorem But.wo {p : Addr} {S : Addr → Prop} {H H' : Hp} (hS : S p) (s : But p H H') : Same (Loc.wo S H) (Loc.wo S H') := fun b o h => by
  by_cases e : S b
  · rw [wo_in e] at h
    cases h
  · rw [wo_ne e] at h ⊢
    exact s b o (fun z => e (by rw [z]; exact hS)) h
theorem Kp.up {S : Addr → Prop} {H H' : Hp} (k : Kp S H) (s : Same H H') : Kp S H' := fun a h => let ⟨ys, e⟩ := k a h; ⟨ys, s _ _ e⟩
theorem Kp.but {p : Addr} {c : Nat} {S : Addr → Prop} {H H' : Hp} (k : Kp S H) (s : But p H H') (hp : Pot H' p c) : Kp S H' := fun a h => by
  by_cases e : a = p
  · rw [e]
    exact hp.ls
  · obtain ⟨ys, z⟩ := k a h
    exact ⟨ys, s a _ e z⟩
theorem Kp.new {S : Addr → Prop} {H : Hp} {q : Addr} (k : Kp S H) (h : H q = none) : ¬ S q := fun z => by
  obtain ⟨ys, e⟩ := k q z
  rw [h] at e
  cases e
/-- more lists are left aside -/
theorem wo_less {S T : Addr → Prop} {H : Hp} (h : ∀ a, T a → S a) : Same (Loc.wo S H) (Loc.wo T H) := fun b o e => by
  by_cases z : S b
  · rw [wo_in z] at e
    cases e
  · rw [wo_ne z] at e
    rw [wo_ne (fun t => z (h b t))]
    exact e
mutual
theorem Dq.up {K : PySem.W.Frag} {H H' : Hp} (e : Same H H') : ∀ {v : V} {d : PyData}, Dq K H v d → Dq K H' v d
  | _, _, .non => .non
  | _, _, .bl b => .bl b
  | _, _, .int i => .int i
  | _, _, .str x => .str x
  | _, _, .lst h t => .lst (e.seq h) (DqAll.up e t)
  | _, _, .tup h t => .tup (sameT e h) (DqAll.up e t)
  | _, _, .dct h t => .dct (e _ _ h) (DqKv.up e t)
theorem DqAll.up {K : PySem.W.Frag} {H H' : Hp} (e : Same H H') : ∀ {vs : List V} {ds : List PyData}, DqAll K H vs ds → DqAll K H' vs ds
  | _, _, .nil => .nil
  | _, _, .cons h t => .cons (Dq.up e h) (DqAll.up e t)
theorem DqKv.up {K : PySem.W.Frag} {H H' : Hp} (e : Same H H') : ∀ {vs : List (Key × V)} {ds : List (PyData × PyData)}, DqKv K H vs ds → DqKv K H' vs ds
  | _, _, .nil => .nil
  | _, _, .cons h t => .cons (Dq.up e h) (DqKv.up e t)
end
theorem DqAll.len {K : PySem.W.Frag} {H : Hp} : ∀ {vs : List V} {ds : List PyData}, DqAll K H vs ds → vs.length = ds.length
  | _, _, .nil => rfl
  | _, _, .cons _ t => congrArg (· + 1) (DqAll.len t)
theorem DqAll.get {K : PySem.W.Frag} {H : Hp} : ∀ {vs : List V} {ds : List PyData} {i : Nat} {v : V}, DqAll K H vs ds → vs[i]? = some v → ∃ d, ds[i]? = some d ∧ Dq K H v d
  | _, _, _, _, .nil, e => by simp at e
  | _, _, 0, _, .cons h _, e => by
    simp only [List.getElem?_cons_zero, Option.some.injEq] at e
    subst e
    exact ⟨_, rfl, h⟩
  | _, _, i + 1, _, .cons _ t, e => by
    simp only [List.getElem?_cons_succ] at e ⊢
    exact DqAll.get t e
theorem DqAll.at {K : PySem.W.Frag} {H : Hp} {vs : List V} {ds : List PyData} {i : Nat} {d : PyData} (h : DqAll K H vs ds) (e : ds[i]? = some d) : ∃ v, vs[i]? = some v ∧ Dq K H v d := by
  have l := h.len
  have i1 := (List.getElem?_eq_some_iff.mp e).1
  obtain ⟨v, hv⟩ := get_of (l := vs) (i := i) (by omega)
  obtain ⟨d', e', q⟩ := h.get hv
  rw [e] at e'
  cases e'
  exact ⟨v, hv, q⟩
theorem DqAll.app {K : PySem.W.Frag} {H : Hp} : ∀ {vs us : List V} {ds es : List PyData}, DqAll K H vs ds → DqAll K H us es → DqAll K H (vs ++ us) (ds ++ es)
  | _, _, _, _, .nil, k => k
  | _, _, _, _, .cons h t, k => .cons h (DqAll.app t k)
theorem DqAll.take {K : PySem.W.Frag} {H : Hp} : ∀ {vs : List V} {ds : List PyData} (n : Nat), DqAll K H vs ds → DqAll K H (vs.take n) (ds.take n)
  | _, _, 0, _ => by simpa using DqAll.nil
  | _, _, n + 1, .nil => by simpa using DqAll.nil
  | _, _, n + 1, .cons h t => by
    rw [List.take_succ_cons, List.take_succ_cons]
    exact .cons h (DqAll.take n t)
theorem DqAll.drop {K : PySem.W.Frag} {H : Hp} : ∀ {vs : List V} {ds : List PyData} (n : Nat), DqAll K H vs ds → DqAll K H (vs.drop n) (ds.drop n)
  | _, _, 0, h => by simpa using h
  | _, _, n + 1, .nil => by simpa using DqAll.nil
  | _, _, n + 1, .cons h t => by
    rw [List.drop_succ_cons, List.drop_succ_cons]
    exact DqAll.drop n t
theorem DqAll.rev {K : PySem.W.Frag} {H : Hp} : ∀ {vs : List V} {ds : List PyData}, DqAll K H vs ds → DqAll K H vs.reverse ds.reverse
  | _, _, .nil => by simpa using DqAll.nil
  | _, _, .cons h t => by
    rw [List.reverse_cons, List.reverse_cons]
    exact DqAll.app (DqAll.rev t) (.cons h .nil)
theorem Dq.tupI {K : PySem.W.Frag} {H : Hp} {v : V} {ds : List PyData} (h : Dq K H v (.tuple ds)) : ∃ a vs, v = .ref a ∧ SqT K H a vs ∧ DqAll K H vs ds := by
  cases h with
  | tup h1 h2 => exact ⟨_, _, rfl, h1, h2⟩
/-! ### what kind a value is of -/
def tyD : PyData → String
  | .none => "NoneType" | .bool _ => "bool" | .int _ => "int" | .str _ => "str" | .list _ => "list" | .tuple _ => "tuple" | .dict _ => "dict"
theorem SqL.ty {K : PySem.W.Frag} {H : Hp} {a : Addr} {xs : List V} (h : SqL K H a xs) : TyX K H (.ref a) (.type "list") := by
  rcases h with (h | ⟨o, h⟩) | ⟨o, its, n, h1, h2, _⟩
  · exact .base (.lst h)
  · exact .base (.frz h)
  · exact .kList h1 h2
theorem Dq.ty {K : PySem.W.Frag} {H H' : Hp} (s : Same H H') {v : V} {d : PyData} (h : Dq K H v d) : TyX K H' v (.type (tyD d)) := by
  cases h with
  | non => exact .base .non
  | bl b => exact .base (.bl b)
  | int i => exact .base (.int i)
  | str x => exact .base (.str x)
  | lst h _ => exact SqL.ty (s.seq h)
  | tup h _ => exact Loc.SqT.ty (sameT s h)
  | dct h _ => exact .base (.dK (s _ _ h))
def isaB (d : PyData) (t : String) : Bool := (kitB (tyD d) t).getD false
theorem isi_any {K : PySem.W.Frag} {H H' : Hp} (s : Same H H') {v : V} {d : PyData} {t : String} {b : Bool} {Q : VK} (h : Dq K H v d) (e : kitB (tyD d) t = some b) (q : Q (.bl b) H') : rIsi K [v, .ty t] H' Q :=
  ⟨_, _, _, _, b, rfl, .ty t, h.ty s, kit_ty e, q⟩
theorem kit_all : kitB "NoneType" "int" = some false ∧ kitB "bool" "int" = some true ∧ kitB "int" "int" = some true ∧ kitB "str" "int" = some false ∧ kitB "list" "int" = some false ∧ kitB "tuple" "int" = some false ∧ kitB "dict" "int" = some false ∧
    kitB "NoneType" "bool" = some false ∧ kitB "bool" "bool" = some true ∧ kitB "int" "bool" = some false ∧ kitB "str" "bool" = some false ∧ kitB "list" "bool" = some false ∧ kitB "tuple" "bool" = some false ∧ kitB "dict" "bool" = some false ∧
    kitB "NoneType" "str" = some false ∧ kitB "bool" "str" = some false ∧ kitB "int" "str" = some false ∧ kitB "str" "str" = some true ∧ kitB "list" "str" = some false ∧ kitB "tuple" "str" = some false ∧ kitB "dict" "str" = some false ∧
    kitB "NoneType" "tuple" = some false ∧ kitB "bool" "tuple" = some false ∧ kitB "int" "tuple" = some false ∧ kitB "str" "tuple" = some false ∧ kitB "list" "tuple" = some false ∧ kitB "tuple" "tuple" = some true ∧ kitB "dict" "tuple" = some false := by decide +kernel
def isIntD : PyData → Bool
  | .int _ => true | .bool _ => true | _ => false
def isBoolD : PyData → Bool
  | .bool _ => true | _ => false
def isStrD : PyData → Bool
  | .str _ => true | _ => false
def isTupD : PyData → Bool
  | .tuple _ => true | _ => false
theorem kit_int (d : PyData) : kitB (tyD d) "int" = some (isIntD d) := by
  obtain ⟨a1, a2, a3, a4, a5, a6, a7, b1, b2, b3, b4, b5, b6, b7, c1, c2, c3, c4, c5, c6, c7, d1, d2, d3, d4, d5, d6, d7⟩ := kit_all
  cases d <;> assumption
theorem kit_bool (d : PyData) : kitB (tyD d) "bool" = some (isBoolD d) := by
  obtain ⟨a1, a2, a3, a4, a5, a6, a7, b1, b2, b3, b4, b5, b6, b7, c1, c2, c3, c4, c5, c6, c7, d1, d2, d3, d4, d5, d6, d7⟩ := kit_all
  cases d <;> assumption
theorem kit_str (d : PyData) : kitB (tyD d) "str" = some (isStrD d) := by
  obtain ⟨a1, a2, a3, a4, a5, a6, a7, b1, b2, b3, b4, b5, b6, b7, c1, c2, c3, c4, c5, c6, c7, d1, d2, d3, d4, d5, d6, d7⟩ := kit_all
  cases d <;> assumption
theorem kit_tup (d : PyData) : kitB (tyD d) "tuple" = some (isTupD d) := by
  obtain ⟨a1, a2, a3, a4, a5, a6, a7, b1, b2, b3, b4, b5, b6, b7, c1, c2, c3, c4, c5, c6, c7, d1, d2, d3, d4, d5, d6, d7⟩ := kit_all
  cases d <;> assumption
end Loc

set_option Elab.async false
set_option linter.all false
set_option maxRecDepth 100000
namespace Loc
open PySem PySem.Spec PyProof.Rows L2
/-! ### how great data may be -/
mutual
def nc (t : Nat) : PyData → Bool
  | .none => true
  | .bool _ => true
  | .int i => decide (i.natAbs ≤ (t + 1) * 10 ^ 60)
  | .str x => decide (x.length ≤ 70 + t) && x.cps.toList.all fun c => decide (c < 16 ^ 8)
  | .list xs => ncAll t xs
  | .tuple xs => ncAll t xs
  | .dict kvs => ncKv t kvs
def ncAll (t : Nat) : List PyData → Bool
  | [] => true
  | x :: r => nc t x && ncAll t r
def ncKv (t : Nat) : List (PyData × PyData) → Bool
  | [] => true
  | (k, v) :: r => nc t k && nc t v && ncKv t r
end
theorem ncAll_mem {t : Nat} : ∀ {ds : List PyData}, ncAll t ds = true ↔ ∀ d ∈ ds, nc t d = true
  | [] => ⟨fun _ d h => (nomatch h), fun _ => by rw [ncAll]⟩
  | x :: r => by
    rw [ncAll, Bool.and_eq_true, ncAll_mem]
    simp
theorem pow_le_mul {t u : Nat} (h : t ≤ u) : (t + 1) * 10 ^ 60 ≤ (u + 1) * 10 ^ 60 := Nat.mul_le_mul_right _ (by omega)
mutual
theorem nc_up {t u : Nat} (l : t ≤ u) : ∀ d : PyData, nc t d = true → nc u d = true
  | .none, _ => by rw [nc]
  | .bool _, _ => by rw [nc]
  | .int i, h => by
    rw [nc] at h ⊢
    exact decide_eq_true (Nat.le_trans (of_decide_eq_true h) (pow_le_mul l))
  | .str x, h => by
    rw [nc, Bool.and_eq_true] at h ⊢
    exact ⟨decide_eq_true (Nat.le_trans (of_decide_eq_true h.1) (by omega)), h.2⟩
  | .list xs, h => by
    rw [nc] at h ⊢
    exact ncAll_up l xs h
  | .tuple xs, h => by
    rw [nc] at h ⊢
    exact ncAll_up l xs h
  | .dict kvs, h => by
    rw [nc] at h ⊢
    exact ncKv_up l kvs h
theorem ncAll_up {t u : Nat} (l : t ≤ u) : ∀ ds : List PyData, ncAll t ds = true → ncAll u ds = true
  | [], _ => by rw [ncAll]
  | x :: r, h => by
    rw [ncAll, Bool.and_eq_true] at h ⊢
    exact ⟨nc_up l x h.1, ncAll_up l r h.2⟩
theorem ncKv_up {t u : Nat} (l : t ≤ u) : ∀ ds : List (PyData × PyData), ncKv t ds = true → ncKv u ds = true
  | [], _ => by rw [ncKv]
  | (k, v) :: r, h => by
    rw [ncKv, Bool.and_eq_true, Bool.and_eq_true] at h ⊢
    exact ⟨⟨nc_up l k h.1.1, nc_up l v h.1.2⟩, ncKv_up l r h.2⟩
end
theorem log_of_nc {t : Nat} {n : Nat} (ht : t ≤ 5) (h : n ≤ (t + 1) * 10 ^ 60) : n < 10 ^ 62 ∧ n.log2 < 1920 := by
  have h1 : (t + 1) * 10 ^ 60 ≤ 6 * 10 ^ 60 := Nat.mul_le_mul_right _ (by omega)
  have h2 : n < 10 ^ 62 := Nat.lt_of_le_of_lt (Nat.le_trans h h1) (by decide)
  refine ⟨h2, ?_⟩
  by_cases e : n = 0
  · rw [e]
    decide
  · exact (Nat.log2_lt e).mpr (Nat.lt_trans h2 (by decide +kernel))
mutual
theorem nc_ok {t : Nat} (ht : t ≤ 5) : ∀ d : PyData, nc t d = true → d.leavesShort 100 = true ∧ d.showable = true
  | .none, _ => by simp [PyData.leavesShort, PyData.showable]
  | .bool _, _ => by simp [PyData.leavesShort, PyData.showable]
  | .int i, h => by
    rw [nc] at h
    obtain ⟨h1, h2⟩ := log_of_nc ht (of_decide_eq_true h)
    refine ⟨?_, ?_⟩
    · rw [PyData.leavesShort]
      have e := int_text_length_le10 (k := 62) (by decide) h1
      refine decide_eq_true ?_
      rw [PyData.shown]
      show (Str.ofString (toString i)).length ≤ 100
      rw [PySem.ofString_length]
      omega
    · rw [PyData.showable]
      exact decide_eq_true h2
  | .str x, h => by
    rw [nc, Bool.and_eq_true] at h
    refine ⟨?_, ?_⟩
    · rw [PyData.leavesShort]
      exact h.2
    · rw [PyData.showable]
  | .list xs, h => by
    rw [nc] at h
    rw [PyData.leavesShort, PyData.showable]
    exact ncAll_ok ht xs h
  | .tuple xs, h => by
    rw [nc] at h
    rw [PyData.leavesShort, PyData.showable]
    exact ncAll_ok ht xs h
  | .dict kvs, h => by
    rw [nc] at h
    rw [PyData.leavesShort, PyData.showable]
    exact ncKv_ok ht kvs h
theorem ncAll_ok {t : Nat} (ht : t ≤ 5) : ∀ ds : List PyData, ncAll t ds = true → PyData.leavesShortAll 100 ds = true ∧ PyData.showableAll ds = true
  | [], _ => by simp [PyData.leavesShortAll, PyData.showableAll]
  | x :: r, h => by
    rw [ncAll, Bool.and_eq_true] at h
    have h1 := nc_ok ht x h.1
    have h2 := ncAll_ok ht r h.2
    rw [PyData.leavesShortAll, PyData.showableAll, h1.1, h1.2, h2.1, h2.2]
    exact ⟨rfl, rfl⟩
theorem ncKv_ok {t : Nat} (ht : t ≤ 5) : ∀ ds : List (PyData × PyData), ncKv t ds = true → PyData.leavesShortKv 100 ds = true ∧ PyData.showableKv ds = true
  | [], _ => by simp [PyData.leavesShortKv, PyData.showableKv]
  | (k, v) :: r, h => by
    rw [ncKv, Bool.and_eq_true, Bool.and_eq_true] at h
    have h1 := nc_ok ht k h.1.1
    have h2 := nc_ok ht v h.1.2
    have h3 := ncKv_ok ht r h.2
    rw [PyData.leavesShortKv, PyData.showableKv, h1.1, h1.2, h2.1, h2.2, h3.1, h3.2]
    exact ⟨rfl, rfl⟩
end
/-- numbers below 10^60 · (t + 1), texts of about 70 signs, nested at most m times, of at most b items in all -/
def sm (t m b : Nat) (d : PyData) : Prop := nc t d = true ∧ d.depth ≤ m ∧ d.bulk ≤ b
def smB (t m b : Nat) (d : PyData) : Bool := nc t d && decide (d.depth ≤ m) && decide (d.bulk ≤ b)
theorem sm_of {t m b : Nat} {d : PyData} (h : smB t m b d = true) : sm t m b d := by
  unfold smB at h
  rw [Bool.and_eq_true, Bool.and_eq_true] at h
  exact ⟨h.1.1, of_decide_eq_true h.1.2, of_decide_eq_true h.2⟩
theorem sm.up {t m b t' m' b' : Nat} {d : PyData} (h : sm t m b d) (h1 : t ≤ t') (h2 : m ≤ m') (h3 : b ≤ b') : sm t' m' b' d := ⟨nc_up h1 d h.1, Nat.le_trans h.2.1 h2, Nat.le_trans h.2.2 h3⟩
/-- what repr asks of such data -/
theorem rep_any {K : PySem.W.Frag} {H H' : Hp} (s : Same H H') {v : V} {d : PyData} {t m b : Nat} {Q : VK} (h : Dq K H v d) (k : sm t m b d) (ht : t ≤ 5) (hm : m ≤ 62) (hb : b ≤ 160000) (q : Q (.str d.shown) H') : rRepQ K [v] H' Q := by
  obtain ⟨k1, k2, k3⟩ := k
  obtain ⟨e1, e2⟩ := nc_ok ht d k1
  have l := PyData.shown_le_bulk 100 (by decide) d e1
  refine ⟨v, d, rfl, h.up s, e2, by omega, ?_, q⟩
  rw [sizeLine_eq]
  omega
theorem sm_tup {t m b : Nat} {ds : List PyData} (h : ∀ d ∈ ds, sm t m b d) (n : Nat) (hn : ds.length ≤ n) : sm t (m + 1) (n * (b + 1)) (.tuple ds) ∧ sm t (m + 1) (n * (b + 1)) (.list ds) := by
  have k1 : ncAll t ds = true := ncAll_mem.mpr fun d hd => (h d hd).1
  have k2 : PyData.depthAll ds ≤ m := by
    clear k1 hn
    induction ds with
    | nil => simp [PyData.depthAll]
    | cons d r ih =>
      have := ih fun x hx => h x (List.mem_cons_of_mem _ hx)
      have h1 := (h d List.mem_cons_self).2.1
      simp only [PyData.depthAll]
      omega
  have k3 : PyData.bulkAll ds ≤ ds.length * (b + 1) := by
    clear k1 k2 hn
    induction ds with
    | nil => simp [PyData.bulkAll]
    | cons d r ih =>
      have := ih fun x hx => h x (List.mem_cons_of_mem _ hx)
      have h1 := (h d List.mem_cons_self).2.2
      simp only [PyData.bulkAll, List.length_cons, Nat.add_mul]
      omega
  have k4 := Nat.le_trans k3 (Nat.mul_le_mul_right (b + 1) hn)
  refine ⟨⟨?_, ?_, ?_⟩, ?_, ?_, ?_⟩
  · rw [nc]; exact k1
  · rw [PyData.depth]; omega
  · rw [PyData.bulk]; exact k4
  · rw [nc]; exact k1
  · rw [PyData.depth]; omega
  · rw [PyData.bulk]; exact k4
/-! ### terms whose value is known, dicts among them -/
def MQ (K : PySem.W.Frag) (S : Addr → Prop) (σ : L2.St) (H0 : Hp) (te : TE) (d : PyData) : Prop := ∀ (H : Hp) (Q : VK), Same H0 H → (∀ H' v, Same H H' → Dq K (wo S H') v d → Q v H') → te σ H Q
def MQs (K : PySem.W.Frag) (S : Addr → Prop) (σ : L2.St) (H0 : Hp) (ta : TA) (ds : List PyData) : Prop := ∀ (H : Hp) (Q : List V → Hp → Prop), Same H0 H → (∀ H' vs, Same H H' → DqAll K (wo S H') vs ds → Q vs H') → ta σ H Q
section
variable {K : PySem.W.Frag} {S : Addr → Prop} {σ : L2.St} {H0 : Hp}
theorem MQ.non : MQ K S σ H0 (tC .non) .none := fun H Q _ q => q H _ (Same.refl H) .non
theorem MQ.bl (b : Bool) : MQ K S σ H0 (tC (.bl b)) (.bool b) := fun H Q _ q => q H _ (Same.refl H) (.bl b)
theorem MQ.int (i : Int) : MQ K S σ H0 (tC (.int i)) (.int i) := fun H Q _ q => q H _ (Same.refl H) (.int i)
theorem MQ.str (x : Str) : MQ K S σ H0 (tC (.str x)) (.str x) := fun H Q _ q => q H _ (Same.refl H) (.str x)
theorem MQ.v {i : Nat} {v : V} {d : PyData} (h : σ[i]? = some (some v)) (k : Dq K (wo S H0) v d) : MQ K S σ H0 (tVar i) d := fun H Q s q => ⟨v, h, q H v (Same.refl H) (k.up (wo_up s))⟩
theorem MQs.nil : MQs K S σ H0 tNil [] := fun H Q _ q => q H _ (Same.refl H) .nil
theorem MQs.cons {te : TE} {ta : TA} {d : PyData} {ds : List PyData} (h : MQ K S σ H0 te d) (t : MQs K S σ H0 ta ds) : MQs K S σ H0 (tCons te ta) (d :: ds) := fun H Q s q =>
  h H _ s fun H1 v s1 k1 => t H1 _ (s.trans s1) fun H2 vs s2 k2 => q H2 (v :: vs) (s1.trans s2) (.cons (k1.up (wo_up s2)) k2)
theorem wo_new {q : Addr} {H : Hp} {o : HO} (hp : Kp S H) (hq : H q = none) : wo S (upd H q o) q = some o := by
  rw [wo_ne (hp.new hq), upd_same]
theorem MQ.tup {ta : TA} {ds : List PyData} (hp : Kp S H0) (h : MQs K S σ H0 ta ds) (l : ds.length ≤ 1000) : MQ K S σ H0 (tTup ta) (.tuple ds) := fun H Q s q =>
  h H _ s fun H1 vs s1 k1 => ⟨Nat.le_trans (by rw [k1.len]; exact l) (by decide), fun a ha => q _ _ (s1.trans (sameN ha)) (.tup (.inl (.inl (wo_new ((hp.up s).up s1) ha))) (k1.up (wo_up (sameN ha))))⟩
theorem MQ.lst {ta : TA} {ds : List PyData} (hp : Kp S H0) (h : MQs K S σ H0 ta ds) (l : ds.length ≤ 1000) : MQ K S σ H0 (tLst ta) (.list ds) := fun H Q s q =>
  h H _ s fun H1 vs s1 k1 => ⟨Nat.le_trans (by rw [k1.len]; exact l) (by decide), fun a ha => q _ _ (s1.trans (sameN ha)) (.lst (.inl (.inl (wo_new ((hp.up s).up s1) ha))) (k1.up (wo_up (sameN ha))))⟩
theorem MQ.dct0 (hp : Kp S H0) : MQ K S σ H0 tDNewK (.dict []) := fun H Q s q => fun a ha => q _ _ (sameN ha) (.dct (wo_new (hp.up s) ha) .nil)
theorem MQ.dct1 {x : Str} {i : Nat} {v : V} {d : PyData} (hp : Kp S H0) (h : σ[i]? = some (some v)) (k : Dq K (wo S H0) v d) : MQ K S σ H0 (tDisp [(tC (.str x), tVar i)]) (.dict [(.str x, d)]) := fun H Q s q => fun a ha => by
  have hs : Same H (upd (upd H a (.dK [])) a (.dK [(.inr x, v)])) := fun b o e => by
    have hb : b ≠ a := fun z => by rw [z, ha] at e; cases e
    rw [upd_ne hb, upd_ne hb]
    exact e
  refine ⟨v, h, upd_same, [(.inr x, v)], rfl, (show 1 ≤ 15 by decide), ?_⟩
  refine q _ _ hs (.dct ?_ (.cons (k := .inr x) (k.up (wo_up (s.trans hs))) .nil))
  rw [wo_ne ((hp.up s).new ha), upd_same]
  rfl
end
end Loc
namespace Loc
open PySem PySem.Spec PyProof.Rows L2
section
variable {K : PySem.W.Frag} {S : Addr → Prop} {σ : L2.St} {H0 : Hp}
theorem MQ.ofInt {te : TE} {i : Int} (h : ∀ (H : Hp) (Q : VK), Q (.int i) H → te σ H Q) : MQ K S σ H0 te (.int i) := fun H Q _ q => h H _ (q H _ (Same.refl H) (.int i))
/-- a list that is made of such terms -/
theorem lst_new {ta : TA} {ds : List PyData} {H : Hp} {Q : VK} (hp : Kp S H) (h : MQs K S σ H ta ds) (l : ds.length ≤ 1000)
    (q : ∀ H' a vs, Same H H' → H a = none → H' a = some (.lst vs) → DqAll K (wo S H') vs ds → ¬ S a → Q (.ref a) H') : tLst ta σ H Q :=
  h H _ (Same.refl H) fun H1 vs s1 k1 => ⟨Nat.le_trans (by rw [k1.len]; exact l) (by decide), fun a ha => q _ a vs (s1.trans (sameN ha)) (by
    cases e : H a with
    | none => rfl
    | some o => rw [s1 _ _ e] at ha; cases ha) upd_same (k1.up (wo_up (sameN ha))) ((hp.up s1).new ha)⟩
end
end Loc
namespace Loc
open PySem PySem.Spec PyProof.Rows L2
theorem seq_asg {te : TE} {g : TG} {t : TS} {D : Ends} {σ : L2.St} {H : Hp} (h : te σ H fun v H1 => g v σ H1 fun σ' H' => t D σ' H') : tSeq (tAsg te g) t D σ H := h
end Loc
namespace Loc
open PySem PySem.Spec PyProof.Rows L2
/-- isinstance(x, t) and .. -/
theorem and_isi {K : PySem.W.Frag} {i : Nat} {t : String} {u : TT} {σ : L2.St} {H H0 : Hp} {v : V} {d : PyData} {b : Bool} {Q : Bool → Hp → Prop} (h : σ[i]? = some (some v)) (s : Same H0 H) (k : Dq K H0 v d) (e : kitB (tyD d) t = some b) (yes : b = true → u σ H Q) (no : b = false → Q false H) :
    tAnd (tB (tCB (rIsi K) (tCons (tVar i) (tCons (tC (.ty t)) tNil)))) u σ H Q := by
  refine ⟨v, h, ?_⟩
  refine isi_any (b := b) (Q := fun x H1 => ∃ c, x = V.bl c ∧ if c = true then u σ H1 Q else Q false H1) s k e ⟨b, rfl, ?_⟩
  cases b with
  | true =>
    rw [if_pos rfl]
    exact yes rfl
  | false =>
    rw [if_neg Bool.false_ne_true]
    exact no rfl
end Loc
namespace Loc
open PySem PySem.Spec PyProof.Rows L2
theorem nx_of {f : L2.St → Hp → Prop} {rt : VK} {bk ct : L2.St → Hp → Prop} {σ : L2.St} {H : Hp} (h : f σ H) : (Ends.mk f rt bk ct).nx σ H := h
end Loc

set_option Elab.async false
set_option linter.all false
set_option maxRecDepth 100000
/-! ### the text of data holds signs alone; data where tables of code objects are written -/
namespace Loc
open PySem PySem.Spec PyProof.Rows L2
theorem txt_ok (s : String) : PyData.strOk (Str.ofString s) = true := by
  unfold PyData.strOk
  rw [Array.all_eq_true_iff_forall_mem]
  intro x hx
  unfold Str.ofString at hx
  rw [cpsOfBytes_string] at hx
  obtain ⟨c, _, rfl⟩ := List.mem_map.mp (List.mem_toArray.mp hx)
  have hc : c.toNat < 1114112 := by
    rcases c.valid with h | ⟨_, h⟩
    · exact Nat.lt_trans h (by decide)
    · exact h
  exact decide_eq_true hc
theorem app_ok {a b : Str} (ha : PyData.strOk a = true) (hb : PyData.strOk b = true) : PyData.strOk (a ++ b) = true := by
  show (a.cps ++ b.cps).all (fun c => decide (c < 0x110000)) = true
  rw [Array.all_append, Bool.and_eq_true]
  exact ⟨ha, hb⟩
theorem join_ok {sep : Str} (hs : PyData.strOk sep = true) : ∀ ts : List Str, (∀ t ∈ ts, PyData.strOk t = true) → PyData.strOk (Str.join sep ts) = true
  | [], _ => by simp [Str.join, Str.empty, PyData.strOk]
  | [x], h => h x List.mem_cons_self
  | x :: y :: r, h => app_ok (app_ok (h x List.mem_cons_self) hs) (join_ok hs (y :: r) fun t ht => h t (List.mem_cons_of_mem _ ht))
theorem from_ok : ∀ (ts : List Str) (k : Nat) (acc : Str), PyData.strOk acc = true → (∀ t ∈ ts, PyData.strOk t = true) → PyData.strOk (textFrom k acc ts) = true
  | [], _, _, h, _ => h
  | t :: r, k, acc, h, ht => from_ok r (k + 1) _ (app_ok (app_ok h (txt_ok _)) (ht t List.mem_cons_self)) fun u hu => ht u (List.mem_cons_of_mem _ hu)
mutual
/-- every text within has a repr of signs -/
def sOk : PyData → Bool
  | .none => true
  | .bool _ => true
  | .int _ => true
  | .str x => PyData.strOk (reprText x)
  | .list xs => sOkAll xs
  | .tuple xs => sOkAll xs
  | .dict kvs => sOkKv kvs
def sOkAll : List PyData → Bool
  | [] => true
  | x :: r => sOk x && sOkAll r
def sOkKv : List (PyData × PyData) → Bool
  | [] => true
  | (k, v) :: r => sOk k && sOk v && sOkKv r
end
mutual
theorem shown_ok : ∀ d : PyData, sOk d = true → PyData.strOk d.shown = true
  | .none, _ => by
    rw [PyData.shown]
    exact txt_ok _
  | .bool b, _ => by
    rw [PyData.shown]
    cases b <;> exact txt_ok _
  | .int i, _ => by
    rw [PyData.shown_int]
    exact txt_ok _
  | .str x, h => by
    rw [PyData.shown]
    rw [sOk] at h
    exact h
  | .list xs, h => by
    rw [sOk] at h
    rw [PyData.shown]
    exact app_ok (from_ok _ _ _ (txt_ok _) (shownAll_ok xs h)) (txt_ok _)
  | .tuple xs, h => by
    rw [sOk] at h
    rw [PyData.shown]
    exact app_ok (app_ok (txt_ok _) (join_ok (txt_ok _) _ (shownAll_ok xs h))) (txt_ok _)
  | .dict kvs, h => by
    rw [sOk] at h
    rw [PyData.shown]
    exact app_ok (app_ok (txt_ok _) (join_ok (txt_ok _) _ (shownKv_ok kvs h))) (txt_ok _)
theorem shownAll_ok : ∀ ds : List PyData, sOkAll ds = true → ∀ t ∈ PyData.shownAll ds, PyData.strOk t = true
  | [], _ => by
    rw [PyData.shownAll]
    exact fun t ht => nomatch ht
  | d :: r, h => by
    rw [sOkAll, Bool.and_eq_true] at h
    rw [PyData.shownAll]
    intro t ht
    rcases List.mem_cons.mp ht with rfl | ht
    · exact shown_ok d h.1
    · exact shownAll_ok r h.2 t ht
theorem shownKv_ok : ∀ kvs : List (PyData × PyData), sOkKv kvs = true → ∀ t ∈ PyData.shownKv kvs, PyData.strOk t = true
  | [], _ => by
    rw [PyData.shownKv]
    exact fun t ht => nomatch ht
  | (k, v) :: r, h => by
    rw [sOkKv, Bool.and_eq_true, Bool.and_eq_true] at h
    rw [PyData.shownKv]
    intro t ht
    rcases List.mem_cons.mp ht with rfl | ht
    · exact app_ok (app_ok (shown_ok k h.1.1) (txt_ok _)) (shown_ok v h.1.2)
    · exact shownKv_ok r h.2 t ht
end
theorem ext_sqL {K : PySem.W.Frag} {H H' : Hp} {a : Addr} {xs : List V} (e : LamX.ExtN H H') (h : SqL K H a xs) : SqL K H' a xs := by
  rcases h with (h | ⟨o, h⟩) | h
  · exact .inl (.inl (e _ _ h (fun _ z => by cases z)))
  · exact .inl (.inr ⟨o, e _ _ h (fun _ z => by cases z)⟩)
  · exact .inr h
mutual
theorem Dq.ext {K : PySem.W.Frag} {H H' : Hp} (e : LamX.ExtN H H') : ∀ {v : V} {d : PyData}, Dq K H v d → Dq K H' v d
  | _, _, .non => .non
  | _, _, .bl b => .bl b
  | _, _, .int i => .int i
  | _, _, .str x => .str x
  | _, _, .lst h t => .lst (ext_sqL e h) (DqAll.ext e t)
  | _, _, .tup h t => .tup (ext_sqt e h) (DqAll.ext e t)
  | _, _, .dct h t => .dct (e _ _ h (fun _ z => by cases z)) (DqKv.ext e t)
theorem DqAll.ext {K : PySem.W.Frag} {H H' : Hp} (e : LamX.ExtN H H') : ∀ {vs : List V} {ds : List PyData}, DqAll K H vs ds → DqAll K H' vs ds
  | _, _, .nil => .nil
  | _, _, .cons h t => .cons (Dq.ext e h) (DqAll.ext e t)
theorem DqKv.ext {K : PySem.W.Frag} {H H' : Hp} (e : LamX.ExtN H H') : ∀ {vs : List (Key × V)} {ds : List (PyData × PyData)}, DqKv K H vs ds → DqKv K H' vs ds
  | _, _, .nil => .nil
  | _, _, .cons h t => .cons (Dq.ext e h) (DqKv.ext e t)
end
theorem BT.tups {p : Addr} {c : Nat} {K : PySem.W.Frag} {H H' : Hp} (e : BT p H H') (hp : Pot H p c) : Tups K H H' := fun a xs h => by
  obtain ⟨o, ho, own, mix, cnt, rfl, _⟩ := hp
  rcases h with (h | ⟨o', h⟩) | h
  · exact .inl (.inl (e _ _ (fun z => by rw [z, ho] at h; cases h) h (fun _ z => by cases z)))
  · exact .inl (.inr ⟨o', e _ _ (fun z => by rw [z, ho] at h; cases h) h (fun _ z => by cases z)⟩)
  · exact .inr h
theorem ext_wo {S : Addr → Prop} {p : Addr} {H H' : Hp} (hp : S p) (e : BT p H H') : LamX.ExtN (wo S H) (wo S H') := fun b o h t => by
  by_cases z : S b
  · rw [wo_in z] at h
    cases h
  · rw [wo_ne z] at h ⊢
    exact e b o (fun q => z (by rw [q]; exact hp)) h t
end Loc

set_option Elab.async false
set_option linter.all false
set_option maxRecDepth 100000
/-! ### how great the data of a node is -/
namespace Loc
open PySem PySem.Spec PyProof.Rows L2
def bd : Nat → Nat
  | 0 => 0
  | l + 1 => 3 * (bd l + 7) + 7
theorem word_k : nc 0 (.str "run") = true ∧ nc 0 (.str "block") = true ∧ sOk (.str "run") = true ∧ sOk (.str "block") = true ∧ PyData.bulk (.str "run") = 3 ∧ PyData.bulk (.str "block") = 5 := by
  refine ⟨by decide +kernel, by decide +kernel, by decide +kernel, by decide +kernel, by decide +kernel, by decide +kernel⟩
mutual
theorem dat_k : ∀ (n : Nd) (l : Nat), Ok n l → (nc 0 (dat n) = true ∧ sOk (dat n) = true) ∧ (dat n).depth ≤ 3 * l + (if n.isRun = true then 1 else 0) ∧ (dat n).bulk ≤ bd l + (if n.isRun = true then 6 else 0)
  | .el k, l, h => by
    rw [Ok] at h
    rw [dat]
    refine ⟨⟨?_, by rw [sOk]⟩, by simp [PyData.depth], by simp [PyData.bulk]⟩
    rw [nc]
    exact decide_eq_true (Nat.le_trans h.2 (by decide))
  | .run b c, l, h => by
    rw [Ok] at h
    obtain ⟨_, h2, h3, h4⟩ := h
    obtain ⟨⟨i1, i2⟩, i3, i4⟩ := dat_k b l h4
    rw [h3, if_neg Bool.false_ne_true] at i3 i4
    have ec : nc 0 (.int (c : Int)) = true := by
      rw [nc]
      exact decide_eq_true (Nat.le_trans h2 (by decide))
    have er : Nd.isRun (.run b c) = true := rfl
    rw [dat, er, if_pos rfl, if_pos rfl]
    refine ⟨⟨by rw [nc, ncAll, ncAll, ncAll, ncAll, word_k.1, i1, ec]; rfl, by rw [sOk, sOkAll, sOkAll, sOkAll, sOkAll, word_k.2.2.1, i2, sOk]; rfl⟩, ?_, ?_⟩
    · simp [PyData.depth, PyData.depthAll]
      omega
    · have e1 := word_k.2.2.2.2.1
      have e2 : PyData.bulk (.int (c : Int)) = 0 := rfl
      show PyData.bulk _ + 1 + (PyData.bulk _ + 1 + (PyData.bulk _ + 1 + 0)) ≤ _
      rw [e1, e2]
      omega
  | .blk ps, l, h => by
    rw [Ok] at h
    obtain ⟨h1, _, h3, h4, _⟩ := h
    obtain ⟨l', rfl⟩ : ∃ m, l = m + 1 := ⟨l - 1, by omega⟩
    obtain ⟨⟨i1, i2⟩, i3, i4⟩ := dats_k ps l' h4
    have er : Nd.isRun (.blk ps) = false := rfl
    rw [dat, er, if_neg Bool.false_ne_true, if_neg Bool.false_ne_true]
    refine ⟨⟨by rw [nc, ncAll, word_k.2.1, ncAll, nc, i1]; rfl, by rw [sOk, sOkAll, word_k.2.2.2.1, sOkAll, sOk, i2]; rfl⟩, ?_, ?_⟩
    · simp [PyData.depth, PyData.depthAll]
      omega
    · have e1 := word_k.2.2.2.2.2
      show PyData.bulk _ + 1 + (PyData.bulkAll (datAll ps) + 1 + 0) ≤ _
      rw [e1]
      have : ps.length * (bd l' + 7) ≤ 3 * (bd l' + 7) := Nat.mul_le_mul_right _ h3
      rw [bd]
      omega
theorem dats_k : ∀ (ns : List Nd) (l : Nat), OkAll ns l → (ncAll 0 (datAll ns) = true ∧ sOkAll (datAll ns) = true) ∧ PyData.depthAll (datAll ns) ≤ 3 * l + 1 ∧ PyData.bulkAll (datAll ns) ≤ ns.length * (bd l + 7)
  | [], l, _ => by
    rw [datAll]
    refine ⟨⟨by rw [ncAll], by rw [sOkAll]⟩, by simp [PyData.depthAll], by simp [PyData.bulkAll]⟩
  | n :: r, l, h => by
    rw [OkAll] at h
    obtain ⟨⟨i1, i2⟩, i3, i4⟩ := dat_k n l h.1
    obtain ⟨⟨j1, j2⟩, j3, j4⟩ := dats_k r l h.2
    rw [datAll]
    refine ⟨⟨by rw [ncAll, i1, j1]; rfl, by rw [sOkAll, i2, j2]; rfl⟩, ?_, ?_⟩
    · simp only [PyData.depthAll]
      split at i3 <;> omega
    · simp only [PyData.bulkAll, List.length_cons, Nat.succ_mul]
      split at i4 <;> omega
end
/-- .. so its repr can be asked for -/
theorem dat_sm {n : Nd} {l m b : Nat} (h : Ok n l) (hm : 3 * l + 1 ≤ m) (hb : bd l + 6 ≤ b) : sm 0 m b (dat n) ∧ sOk (dat n) = true := by
  obtain ⟨⟨i1, i2⟩, i3, i4⟩ := dat_k n l h
  refine ⟨⟨i1, ?_, ?_⟩, i2⟩
  · split at i3 <;> omega
  · split at i4 <;> omega
mutual
/-- plain data within all data -/
theorem dq_dp {K : PySem.W.Frag} {H : Hp} : ∀ {v : V} {d : PyData}, Dp K H v d → Dq K H v d
  | _, _, .non => .non
  | _, _, .bl b => .bl b
  | _, _, .int i => .int i
  | _, _, .str x => .str x
  | _, _, .lst h t => .lst h (dqA_dp t)
  | _, _, .tup h t => .tup h (dqA_dp t)
theorem dqA_dp {K : PySem.W.Frag} {H : Hp} : ∀ {vs : List V} {ds : List PyData}, DpAll K H vs ds → DqAll K H vs ds
  | _, _, .nil => .nil
  | _, _, .cons h t => .cons (dq_dp h) (dqA_dp t)
end
end Loc

set_option Elab.async false
set_option linter.all false
set_option maxRecDepth 100000
namespace C64
open PySem PySem.Spec PyProof.Rows L2 Loc RZ
/-! ### the law's names -/
section
variable {P : Program} {w : World} {K : PySem.W.Frag} {mg : Str → Option Value} {base : Heap}
def six : List Str := ["a", "b", "c", "aa", "zzzzzzzz", "part"]
theorem six_nm : ∀ n ∈ six, Nm n := by
  have h : six.all (fun n => decide (1 ≤ n.length) && decide (n.length ≤ 8) && n.cps.toList.all (fun c => decide (c ∈ lets.cps.toList))) = true := by decide +kernel
  intro n hn
  have := List.all_eq_true.mp h n hn
  rw [Bool.and_eq_true, Bool.and_eq_true, decide_eq_true_eq, decide_eq_true_eq, List.all_eq_true] at this
  exact ⟨this.1.1, this.1.2, fun c hc => by simpa using this.2 c hc⟩
theorem scLName : FnScope ["pot"] ["pot"] (defScope s__law_name) := ⟨rfl, rfl, rfl, by decide +kernel, rfl, by decide +kernel, by decide +kernel⟩
def spLName : Sp := fun vs H Q _ => ∃ (p : Addr) (c : Nat), vs = [.ref p] ∧ Pot H p c ∧ c < 900000 ∧ ∀ n H', n ∈ six → But p H H' → Pot H' p (c + 1) → Q (.str n) H'
theorem ok_lname (X : Facts K mg) : FnOk P w K mg base CX0 3 X.ul_name X.vl_name ["pot"] spLName := by
  have GO : FnOk P w K mg base CX0 2 X.ul_of X.vl_of ["pot", "some"] spOf := ok_of X.fl_of X.fl_take X.gl_take X.bl_take X.len
  refine X.fl_name.ok scLName (fun vs H Q E h => ?_) (fun cdv A outer s H vs Q E hr h => ?_)
  · obtain ⟨p, c, rfl, _⟩ := h
    rfl
  · obtain ⟨p, c, rfl, hp, hc, q⟩ := h
    refine ⟨_, pss_one (ps_ret (pe_call GO hr (by rfl) X.gl_of X.fl_of.kp X.bl_of .nil pass0 (pa_cons (pv 0) (pa_cons (pe_lst (pa_cons pe_str (pa_cons pe_str (pa_cons pe_str (pa_cons pe_str (pa_cons pe_str (pa_cons pe_str pa_nil))))))) pa_nil)))), ?_⟩
    refine ⟨.ref p, rfl, (show 6 ≤ sizeLine by decide), fun D nD => ?_⟩
    refine ⟨p, D, six.map V.str, c, rfl, hp.new nD, by omega, hp.ne nD, upd_same, by decide, by decide, ?_⟩
    intro j x H' hx b p2
    rw [List.getElem?_map] at hx
    obtain ⟨n, hn, rfl⟩ := Option.map_eq_some_iff.mp hx
    exact q n H' (List.mem_of_getElem? hn) ((But.new nD).trans b) p2
end
/-! ### the store and the law's own dict -/
section
variable {K : PySem.W.Frag}
def Rel (K : PySem.W.Frag) (H : Hp) (x y : Str × V) : Prop := x.1 = y.1 ∧ Nm x.1 ∧ ∃ (g : Addr) (ws : List V) (gs : List (Nd × Nat)), y.2 = .ref g ∧ SqT K H g ws ∧ PrsV K H ws gs ∧ Giv gs ∧ gs.length ≤ 300 ∧ TreeX K H x.2 gs
theorem Rel.up {H H' : Hp} {x y : Str × V} (h : Rel K H x y) (e : Tups K H H') : Rel K H' x y := by
  obtain ⟨h1, h2, g, ws, gs, h3, h4, h5, h6, h7, h8⟩ := h
  exact ⟨h1, h2, g, ws, gs, h3, e _ _ h4, PrsV.up e h5, h6, h7, h8.up e⟩
theorem rel_key {H : Hp} : ∀ x y, Rel K H x y → x.1 = y.1 := fun _ _ h => h.1
theorem rels_up {H H' : Hp} {m mv : KS} (h : Paired (Rel K H) m mv) (e : Tups K H H') : Paired (Rel K H') m mv := paired_imp (fun _ _ h => h.up e) h
/-- what holds between two statements of the law -/
structure Sts (K : PySem.W.Frag) (C p s L M : Addr) (T : List (Addr × Str)) (H1 H : Hp) (m mv : KS) (os : List KS) (c : Nat) : Prop where
  ext : LamX.ExtN H1 H
  pot : Pot H p c
  sto : StoV (fun b => b = M) C H s L m os
  mod : H M = some (.dK (kv mv))
  rel : Paired (Rel K H) m mv
  tab : LamX.Tabs T H
  pL : p ≠ L
  n1 : H1 p = none
  n2 : H1 s = none
  n3 : H1 L = none
  n4 : H1 M = none
variable {C p s L M : Addr} {T : List (Addr × Str)} {H1 H H' : Hp} {m mv : KS} {os : List KS} {c : Nat}
theorem ext_tr {H H1 H2 : Hp} (a : LamX.ExtN H H1) (b : LamX.ExtN H1 H2) : LamX.ExtN H H2 := fun c o e t => b c o (a c o e t) t
theorem Sts.extN (x : Sts K C p s L M T H1 H m mv os c) (e : LamX.ExtN H H') (t : LamX.Tabs T H') : Sts K C p s L M T H1 H' m mv os c :=
  { ext := ext_tr x.ext e, pot := ext_pot e x.pot, sto := x.sto.ext e, mod := e _ _ x.mod (fun _ z => by cases z), rel := rels_up x.rel (ext_tups e), tab := t, pL := x.pL, n1 := x.n1, n2 := x.n2, n3 := x.n3, n4 := x.n4 }
theorem Sts.same (x : Sts K C p s L M T H1 H m mv os c) (e : Same H H') : Sts K C p s L M T H1 H' m mv os c := x.extN (ext_same e) (tabs_same x.tab e)
theorem Sts.but (x : Sts K C p s L M T H1 H m mv os c) {c' : Nat} (e : But p H H') (hp : Pot H' p c') : Sts K C p s L M T H1 H' m mv os c' := by
  obtain ⟨ys, hl⟩ := x.pot.ls
  refine { ext := fun b o h t => e b o (fun z => by rw [z, x.n1] at h; cases h) (x.ext b o h t), pot := hp, sto := x.sto.but e hl x.pL, mod := e _ _ (fun z => ?_) x.mod, rel := rels_up x.rel (e.tupsP x.pot), tab := tabs_but x.tab e x.pot, pL := x.pL, n1 := x.n1, n2 := x.n2, n3 := x.n3, n4 := x.n4 }
  have := x.mod
  rw [z, hl] at this
  cases this
theorem tabs_fs {Z : Addr → Prop} (t : LamX.Tabs T H) (hS : StoV Z C H s L m os) (e : Fs s L H H') : LamX.Tabs T H' := fun x hx => by
  obtain ⟨ps, h1, h2, h3⟩ := t x hx
  obtain ⟨a1, a2⟩ := hS.ne h1 ⟨(fun _ _ _ z => by cases z), (fun _ z => by cases z)⟩
  refine ⟨ps, e _ _ a1 a2 h1, h2, fun pos cv hc => ?_⟩
  obtain ⟨k, e1, e2⟩ := h3 pos cv hc
  obtain ⟨b1, b2⟩ := hS.ne e2 ⟨(fun _ _ _ z => by cases z), (fun _ z => by cases z)⟩
  exact ⟨k, e1, e _ _ b1 b2 e2⟩
/-- a change of the store -/
theorem Sts.fs (x : Sts K C p s L M T H1 H m mv os c) {m' : KS} {os' : List KS} (e : Fs s L H H') (hS : StoV (fun b => b = M) C H' s L m' os') : LamX.ExtN H1 H' ∧ Pot H' p c ∧ H' M = some (.dK (kv mv)) ∧ Tups K H H' ∧ LamX.Tabs T H' := by
  refine ⟨fun b o h t => e b o (fun z => by rw [z, x.n2] at h; cases h) (fun z => by rw [z, x.n3] at h; cases h) (x.ext b o h t), ?_, ?_, x.sto.tups e, tabs_fs x.tab x.sto e⟩
  · obtain ⟨o, ho, po⟩ := x.pot
    refine ⟨o, e _ _ (fun z => ?_) x.pL ho, po⟩
    obtain ⟨_, _, _, h1, _⟩ := x.sto
    obtain ⟨ys, hl⟩ := x.pot.ls
    rw [z, h1] at hl
    cases hl
  · obtain ⟨a1, a2⟩ := x.sto.ne x.mod ⟨(fun _ _ _ z => by cases z), (fun _ z => by cases z)⟩
    exact e _ _ a1 a2 x.mod
/-- both changed -/
theorem Sts.mk2 (e1 : LamX.ExtN H1 H) (e2 : Pot H p c) (hS : StoV (fun b => b = M) C H s L m os) (hM : H M = some (.dK (kv mv))) (t : LamX.Tabs T H) (pL : p ≠ L) (n1 : H1 p = none) (n2 : H1 s = none) (n3 : H1 L = none) (n4 : H1 M = none) {mv' : KS} (r : Paired (Rel K H) m mv') :
    Sts K C p s L M T H1 (upd H M (.dK (kv mv'))) m mv' os c := by
  have ne : ∀ {b o}, H b = some o → (∀ k, o ≠ .dK k) → b ≠ M := fun h n z => by
    rw [z, hM] at h
    exact n _ (Option.some.inj h).symm
  have up : ∀ b o, H b = some o → b ≠ M → (upd H M (.dK (kv mv'))) b = some o := fun b o h n => by
    rw [upd_ne n]
    exact h
  refine { ext := fun b o h q => up b o (e1 b o h q) (fun z => by rw [z, n4] at h; cases h), pot := ?_, sto := hS.up fun b o _ h k => up b o h ?_, mod := upd_same, rel := rels_up r fun b xs h => ?_, tab := fun x hx => ?_, pL := pL, n1 := n1, n2 := n2, n3 := n3, n4 := n4 }
  · obtain ⟨o, ho, po⟩ := e2
    obtain ⟨a, b, z, rfl, _⟩ := id po
    exact ⟨_, up _ _ ho (ne ho fun _ z => by cases z), po⟩
  · rcases k with rfl | rfl | ⟨k, _⟩
    · obtain ⟨_, _, _, h1, _⟩ := hS
      exact ne h1 fun _ z => by cases z
    · obtain ⟨_, _, _, _, _, h3, _⟩ := hS
      exact ne h3 fun _ z => by cases z
    · exact k
  · rcases h with (h | ⟨o, h⟩) | h
    · exact .inl (.inl (up _ _ h (ne h fun _ z => by cases z)))
    · exact .inl (.inr ⟨o, up _ _ h (ne h fun _ z => by cases z)⟩)
    · exact .inr h
  · obtain ⟨ps, h1, h2, h3⟩ := t x hx
    refine ⟨ps, up _ _ h1 (ne h1 fun _ z => by cases z), h2, fun pos cv hc => ?_⟩
    obtain ⟨k, e1, e2⟩ := h3 pos cv hc
    exact ⟨k, e1, up _ _ e2 (ne e2 fun _ z => by cases z)⟩
def yV : Option Str → V
  | none => .non
  | some n => .str n
def yD : Option Str → PyData
  | none => .none
  | some n => .str n
/-- what the law is told, and what is due -/
def Ans (K : PySem.W.Frag) (H : Hp) (v : V) (x : Str) (y : Option Str) : Prop := ∃ t, v = .ref t ∧ SqT K H t [.str x, yV y]
theorem Ans.up {v : V} {x : Str} {y : Option Str} (h : Ans K H v x y) (e : Tups K H H') : Ans K H' v x y := let ⟨t, a, b⟩ := h; ⟨t, a, e _ _ b⟩
def ansD (x : Str) (y : Option Str) : PyData := .tuple [.str x, yD y]
theorem Ans.dq {v : V} {x : Str} {y : Option Str} (h : Ans K H v x y) : Dq K H v (ansD x y) := by
  obtain ⟨t, rfl, ht⟩ := h
  cases y with
  | none => exact .tup ht (.cons (.str _) (.cons .non .nil))
  | some n => exact .tup ht (.cons (.str _) (.cons (.str _) .nil))
end
/-! ### sizes of what is compared -/
theorem nm_sm {n : Str} (h : Nm n) : sm 0 0 8 (.str n) := by
  obtain ⟨h1, h2, h3⟩ := h
  refine ⟨?_, by simp [PyData.depth], by simp [PyData.bulk]; exact h2⟩
  rw [nc, Bool.and_eq_true, List.all_eq_true]
  refine ⟨decide_eq_true (by omega), fun c hc => decide_eq_true ?_⟩
  have k : lets.cps.toList.all (fun c => decide (c < 16 ^ 8)) = true := by decide +kernel
  exact of_decide_eq_true (List.all_eq_true.mp k c (h3 c hc))
theorem names_sm {ys : List Str} {k : Nat} (h : ∀ n ∈ ys, Nm n) (l : ys.length ≤ 60) (hk : k ≤ 60) : sm 4 60 100000 (.list [.tuple (ys.map .str), .int (k : Nat)]) := by
  have e1 : sm 0 1 540 (.tuple (ys.map PyData.str)) := (sm_tup (ds := ys.map .str) (fun d hd => by
    obtain ⟨n, hn, rfl⟩ := List.mem_map.mp hd
    exact nm_sm (h n hn)) 60 (by rw [List.length_map]; exact l)).1
  have e2 : sm 0 1 540 (.int (k : Nat)) := by
    refine ⟨?_, by simp [PyData.depth], by simp [PyData.bulk]⟩
    rw [nc]
    exact decide_eq_true (by omega)
  refine ((sm_tup (t := 0) (m := 1) (b := 540) (ds := [.tuple (ys.map .str), .int (k : Nat)]) (fun d hd => ?_) 2 (Nat.le_refl 2)).2).up (by decide) (by decide) (by decide)
  rcases List.mem_cons.mp hd with rfl | hd
  · exact e1
  · rw [List.mem_singleton.mp hd]
    exact e2
theorem ans_sm {x : Str} {y : Option Str} (hx : x = "returned" ∨ x = "none") (hy : ∀ n, y = some n → Nm n) : sm 4 60 100000 (ansD x y) := by
  have e1 : sm 0 0 8 (.str x) := by
    rcases hx with rfl | rfl <;> exact sm_of (by decide +kernel)
  have e2 : sm 0 0 8 (yD y) := by
    cases y with
    | none => exact sm_of (by decide +kernel)
    | some n => exact nm_sm (hy n rfl)
  refine ((sm_tup (t := 0) (m := 0) (b := 8) (ds := [.str x, yD y]) (fun d hd => ?_) 2 (Nat.le_refl 2)).1).up (by decide) (by decide) (by decide)
  rcases List.mem_cons.mp hd with rfl | hd
  · exact e1
  · rw [List.mem_singleton.mp hd]
    exact e2
theorem strs_dq {K : PySem.W.Frag} {H : Hp} : ∀ ys : List Str, DqAll K H (ys.map V.str) (ys.map PyData.str)
  | [] => .nil
  | y :: r => .cons (.str y) (strs_dq r)
/-! ### the law -/
section
variable {P : Program} {w : World} {K : PySem.W.Frag} {mg : Str → Option Value} {base : Heap}
theorem nx3 {f : L2.St → Hp → Prop} {rt : VK} {bk ct : L2.St → Hp → Prop} {i : Nat} {v : V} {σ : L2.St} {H : Hp} (h : f (σ.set i (some v)) H) : gName i v σ H (Ends.mk f rt bk ct).nx := h
theorem gn {i : Nat} {v : V} {σ : L2.St} {H : Hp} {k : L2.St → Hp → Prop} (h : k (σ.set i (some v)) H) : gName i v σ H k := h
theorem if_mid {c : TT} {t e U : TS} {D : Ends} {σ : L2.St} {H : Hp} (C : L2.St → Hp → Prop) (h1 : (∀ σ' H', C σ' H' → U D σ' H') → tSeq (tIfS c t e) U D σ H) (h2 : ∀ σ' H', C σ' H' → U D σ' H') : tSeq (tIfS c t e) U D σ H := h1 h2
theorem isd_kv {H : Hp} {M : Addr} {k : List (Key × V)} (h : H M = some (.dK k)) : IsD H M := .inl ⟨_, .inl h⟩
theorem seq_no {T : TT} {t U : TS} {D : Ends} {σ : L2.St} {H : Hp} (S : Hp → Prop) (h : ∀ R : Bool → Hp → Prop, (∀ H', S H' → R false H') → T σ H R) (k : ∀ H', S H' → U D σ H') : tSeq (tIfS T t tNext) U D σ H := h _ fun H' s => iteF (k H' s)
theorem nm_by : Nm "byname" := by
  refine ⟨by decide +kernel, by decide +kernel, ?_⟩
  have k : (("byname" : Str)).cps.toList.all (fun c => decide (c ∈ lets.cps.toList)) = true := by decide +kernel
  exact fun c hc => of_decide_eq_true (List.all_eq_true.mp k c hc)
theorem giv_by : Giv [(.el 3, 2)] := by
  refine ⟨fun p hp => ?_, fun i p q hp hq => ?_⟩
  · rw [List.mem_singleton.mp hp]
    exact ⟨⟨3, rfl, by decide⟩, by decide, by decide⟩
  · simp at hq
theorem top_single {x n : Nd} {s : Nat} (h : nx s [x] = [n]) (top : Top [x] (s + 1)) : n = x := by
  rcases top with ⟨z, _⟩ | ⟨_, s', e1, e2, e3⟩
  · cases z
  · cases s' with
    | zero =>
      obtain rfl : s = 0 := by omega
      have h' : [x] = [n] := h
      cases h'
      rfl
    | succ s' =>
      have := e3 0 (by omega)
      exact absurd this (by show ¬ 1 < 1; omega)
abbrev nmLaw : List Str := ["script", "k", "pot", "model", "many", "turn", "due", "told", "one", "given", "label", "store"]
theorem scLaw : FnScope nmLaw ["script"] (defScope sLaw) := ⟨rfl, rfl, rfl, by decide +kernel, rfl, by decide +kernel, by decide +kernel⟩
abbrev tabL (Pt : Addr) : List (Addr × Str) := [(Pt, (envOfC "law" (defScope sLaw) 0 0 .none).qual ++ "<lambda>")]
def spLaw (K : PySem.W.Frag) (cs : List (Addr × Addr)) : Sp := fun vs H Q _ => ∃ (a : Addr) (ns : List Int), vs = [.ref a] ∧ SqL K H a (ns.map V.int) ∧ ns.length ≤ 63 ∧ (∀ p ∈ cs, H p.2 = some (.tbl #[])) ∧ ∀ H', Q (.bl true) H'
theorem kb_put {q : Str} {f : Addr} {fd : FuncData} (F : Fun K "put" q sM_put f fd) : KBn K fd ["self", "name", "runs"] 1 ["runs", "name"] gB gB := fun_kbnB F 1 ["runs", "name"] fun _ _ _ _ _ _ us ws h1 h2 => match us, ws, h1, h2 with | [_], [_, _], _, _ => rfl
theorem kb_stree {q : Str} {f : Addr} {fd : FuncData} (F : Fun K "tree" q sM_tree f fd) : KBn K fd ["self", "name"] 1 ["name"] gA gA := fun_kbnA F 1 ["name"] fun _ _ _ _ _ _ us ws h1 h2 => match us, ws, h1, h2 with | [_], [_], _, _ => rfl
theorem kb_drop {q : Str} {f : Addr} {fd : FuncData} (F : Fun K "drop" q sM_drop f fd) : KBn K fd ["self", "name"] 1 ["name"] gA gA := fun_kbnA F 1 ["name"] fun _ _ _ _ _ _ us ws h1 h2 => match us, ws, h1, h2 with | [_], [_], _, _ => rfl
set_option maxHeartbeats 0 in
theorem ok_law {f : Addr} {fd : FuncData} (F : Fun K "law" "law" sLaw f fd) (X : Facts K mg) (S : StoF K mg) (EF : ErrN K mg) {cc Pt : Addr} (code : fd.code = .ref cc) (TB : LamX.TabB base mg cc Pt) : FnG P w K mg base CX0 32 f fd ["script"] (spLaw K [(cc, Pt)]) := by
  have GP : FnOk P w K mg base CX0 1 X.ul_pot X.vl_pot ["script", "k"] (spPot K) := ok_pot X.fl_pot X.len X.abs X.int
  have GT : FnOk P w K mg base CX0 2 X.ul_take X.vl_take ["pot", "bound"] spTake := ok_take X.fl_take
  have GN := ok_lname (P := P) (w := w) (base := base) X
  have GD := ok_wide (P := P) (w := w) (base := base) X.fl_wide X.fl_take X.gl_take X.bl_take X.fl_of X.gl_of X.bl_of X.fl_sequence X.gl_sequence X.bl_sequence X.fl_runs X.gl_runs X.bl_runs X.len X.tuple
  have GL : FnOk P w K mg base CX0 22 X.ul_tree X.vl_tree ["given"] (spTreeX K) := ok_ltree X
  have SI := ok_SI (P := P) (w := w) (base := base) S
  have SP := ok_SP (P := P) (w := w) (base := base) X S
  have SD := ok_SD (P := P) (w := w) (base := base) X S EF.O
  have ST := ok_ST (P := P) (w := w) (base := base) X S EF.O
  have SN := ok_SN (P := P) (w := w) (base := base) S X.tuple X.sorted
  have SH := ok_SH (P := P) (w := w) (base := base) S X.len
  have SL := ok_SL (P := P) (w := w) (base := base) S X.len
  obtain ⟨roc, rod, rkV, rdoc, rpm, ran, rcd, rct, rosl, efd, rlk, rhc⟩ := X.fl_caught.ex
  have rb := X.bl_caught
  rw [efd] at rlk rb
  refine fun_okGC F code scLaw (fun vs H Q E h => ?_) (fun A outer s H vs Q E hg hr h => ?_)
  · obtain ⟨a, ns, rfl, _⟩ := h
    rfl
  · obtain ⟨a, ns, rfl, hS, hlen, hcs, q⟩ := h
    have hu := hu_of hr
    have r1 := hr.mono (j := 1) (by omega)
    have r2 := hr.mono (j := 2) (by omega)
    have r3 := hr.mono (j := 3) (by omega)
    have r4 := hr.mono (j := 4) (by omega)
    have r6 := hr.mono (j := 4 + 2) (by omega)
    have r22 := hr.mono (j := 22) (by omega)
    have r26 := hr.mono (j := 26) (by omega)
    have r28 := hr.mono (j := 26 + 2) (by omega)
    refine ⟨_, pss_cons (ps_for PassesOwn.never rfl (pi_range1 (by rfl) X.range (pa_cons (pe_callB (L2.call_max2 rfl) (by rfl) X.max (by decide +kernel) (pa_cons pe_int (pa_cons (pe_callB (L2.call_min2 rfl) (by rfl) X.min (by decide +kernel)
            (pa_cons pe_int (pa_cons (pe_callB call_len_seq (by rfl) X.len PySem.boot_len (pa_cons (pv 0) pa_nil)) pa_nil))) pa_nil))) pa_nil)) (pg_name (i := 1) scLaw.nd rfl (.inl rfl))
        (pss_cons (ps_asg (pe_tup (pa_cons (pe_call GP r1 (by rfl) X.gl_pot X.fl_pot.kp X.bl_pot .nil pass0 (pa_cons (pv 0) (pa_cons (pv 1) pa_nil))) (pa_cons (pe_make0 S.new SI r2 (by rfl) S.g S.bI .nil pass0) (pa_cons pe_dnewK pa_nil))))
            (pg_tup rfl (pgs_cons (pg_name (i := 2) scLaw.nd rfl (.inl rfl)) (pgs_cons (pg_name (i := 11) scLaw.nd rfl (.inr rfl)) (pgs_cons (pg_name (i := 3) scLaw.nd rfl (.inl rfl)) pgs_nil)))))
        (pss_cons (ps_set (i := 4) scLaw.nd rfl (.inl rfl) pe_int)
        (pss_cons (ps_for PassesOwn.never rfl (pi_range1 (by rfl) X.range (pa_cons pe_int pa_nil)) (pg_name (i := 5) scLaw.nd rfl (.inl rfl))
          (pss_cons (ps_asg (pe_tup (pa_cons (pe_call GN r3 (by rfl) X.gl_name X.fl_name.kp X.bl_name .nil pass0 (pa_cons (pv 2) pa_nil)) (pa_cons (pe_call GD r4 (by rfl) X.gl_wide X.fl_wide.kp X.bl_wide .nil pass0 (pa_cons (pv 2) (pa_cons pe_int pa_nil))) pa_nil)))
            (pg_tup rfl (pgs_cons (pg_name (i := 10) scLaw.nd rfl (.inr rfl)) (pgs_cons (pg_name (i := 9) scLaw.nd rfl (.inr rfl)) pgs_nil))))
          (pss_cons (ps_if (pt_cmpR op_eq (pe_call GT r2 (by rfl) X.gl_take X.fl_take.kp X.bl_take .nil pass0 (pa_cons (pv 2) (pa_cons pe_int pa_nil))) pe_int (nomark _))
            (pss_cons (ps_set (i := 6) scLaw.nd rfl (.inl rfl) (pe_ifExp (pt_cmp (pc_din hu (pv 10) (pv 3))) (pe_tup (pa_cons pe_str (pa_cons pe_non pa_nil))) (pe_tup (pa_cons pe_str (pa_cons (pv 10) pa_nil)))))
            (pss_cons (ps_set (i := 7) scLaw.nd rfl (.inl rfl) (LamX.pe_lamcall (T := tabL Pt) (TT := TCau EF) (k := 4) (t := fun E => tMeth S.C "drop" (spSD S.C EF.cO) [] E (tVar 11) (tCons (tVar 10) tNil)) (by rfl) X.gl_caught X.fl_caught.kp rlk rhc rb scCau rfl (.inl rfl)
                (cau_gives (X := (cxOf CX0 P w K mg base nmLaw "law" (defScope sLaw) f (.ref cc) A outer s H E).nox) EF X.isinstance) TB (by rfl) (List.mem_cons_self) (fun x hx _ => by rw [List.mem_singleton.mp hx]; rfl) r6 (LamX.lamS_by (by rfl)) (by rfl) (fun _ _ _ _ _ => rfl)
                (fun A outer s H E f c' hr' => pe_meth (E := E) (pv 11) S.c S.drop.M SD hr' S.drop.b .nil (passes_call (takes_of rfl rfl rfl rfl) fun _ _ _ _ h => h) (pa_cons (pv 10) pa_nil))))
            (pss_cons (ps_set (i := 4) scLaw.nd rfl (.inl rfl) (pe_op op_add (pv 4) (pe_callTy call_int1 (by rfl) X.int PyProof.Rows.boot_int (pa_cons (pe_cmp (pc_din hu (pv 10) (pv 3))) pa_nil))))
            (pss_one (ps_expr (pe_dpop2 (pv 3) (pv 10) pe_non ⟨rfl, rfl, rfl, rfl⟩))))))
            (pss_cons (ps_par (i := 6) (j := 4) (by rfl) scLaw.nd rfl rfl (by decide) rfl rfl (pa_cons (pe_tup (pa_cons pe_str (pa_cons pe_non pa_nil))) (pa_cons (pe_op op_add (pv 4) pe_int) pa_nil)) (by rfl))
            (pss_cons (ps_set (i := 7) scLaw.nd rfl (.inl rfl) (LamX.pe_lamcall (T := tabL Pt) (TT := TCau EF) (k := 26) (t := fun _ => tMeth S.C "put" (spSP K S.C) [] E0 (tVar 11) (tCons (tVar 10) (tCons (tVar 9) tNil))) (by rfl) X.gl_caught X.fl_caught.kp rlk rhc rb scCau rfl (.inl rfl)
                (cau_gives (X := (cxOf CX0 P w K mg base nmLaw "law" (defScope sLaw) f (.ref cc) A outer s H E).nox) EF X.isinstance) TB (by rfl) (List.mem_cons_self) (fun x hx _ => by rw [List.mem_singleton.mp hx]; rfl) r28 (LamX.lamS_by (by rfl)) (by rfl) (fun _ _ _ _ _ => rfl)
                (fun A outer s H E f c' hr' => pe_meth (pv 11) S.c S.put.M SP hr' S.put.b .nil pass0 (pa_cons (pv 10) (pa_cons (pv 9) pa_nil)))))
            (pss_one (ps_dput hu (pv 3) (pv 10) (pv 9) rfl)))))
          (pss_cons (ps_if (PW.pt (pw_or (pt_cmpR op_ne (pe_callB (call_repQ hr hg) (by rfl) X.repr PyProof.Rows.boot_repr (pa_cons (pv 7) pa_nil)) (pe_callB (call_repQ hr hg) (by rfl) X.repr PyProof.Rows.boot_repr (pa_cons (pv 6) pa_nil)) (nomark _))
              (pw_or1 (pt_cmpR op_ne (pe_callB (call_repQ hr hg) (by rfl) X.repr PyProof.Rows.boot_repr (pa_cons (pe_lst (pa_cons (pe_prop (pv 11) S.c S.names.P SN r2 S.names.b .nil pass0 rfl) (pa_cons (pe_callB (call_lenOwn S.len S.tlen SL r2 S.bL) (by rfl) X.len PySem.boot_len (pa_cons (pv 11) pa_nil)) pa_nil))) pa_nil))
                (pe_callB (call_repQ hr hg) (by rfl) X.repr PyProof.Rows.boot_repr (pa_cons (pe_lst (pa_cons (pe_callTy call_tuple_of (by rfl) X.tuple PyProof.Rows.boot_tuple (pa_cons (pe_callB (call_sortedD rfl) (by rfl) X.sorted (by decide +kernel) (pa_cons (pv 3) pa_nil)) pa_nil)) (pa_cons (pe_callB call_lenD (by rfl) X.len PySem.boot_len (pa_cons (pv 3) pa_nil)) pa_nil))) pa_nil)) (nomark _)))))
              (pss_one (ps_ret pe_bl)) pss_nil)
          (pss_cons (ps_if (pt_cmpR op_ne (pe_prop (pv 11) S.c S.changes.P SH r2 S.changes.b .nil pass0 rfl) (pv 4) (nomark _)) (pss_one (ps_ret pe_bl)) pss_nil)
          (pss_one (ps_for PassesOwn.never rfl (pi_list (pe_callB (call_sortedD rfl) (by rfl) X.sorted (by decide +kernel) (pa_cons (pv 3) pa_nil))) (pg_name (i := 8) scLaw.nd rfl (.inl rfl))
            (pss_one (ps_if (pt_cmpR op_ne (pe_callB (call_repV hr hg) (by rfl) X.repr PyProof.Rows.boot_repr (pa_cons (pe_meth (E := fun _ _ _ => False) (pv 11) S.c S.tree.M ST r4 S.tree.b .nil (passes_call LamX.takes0 fun _ _ _ _ h => h) (pa_cons (pv 8) pa_nil)) pa_nil))
                (pe_callB (call_repV hr hg) (by rfl) X.repr PyProof.Rows.boot_repr (pa_cons (pe_call GL r22 (by rfl) X.gl_tree X.fl_tree.kp X.bl_tree .nil pass0 (pa_cons (pe_dget hu (pv 3) (pv 8) (fun _ _ => rfl)) pa_nil)) pa_nil)) (nomark _))
              (pss_one (ps_ret pe_bl)) pss_nil)))))))))
        (pss_cons (ps_expr (pe_methK0 (pv 11) S.c S.put.M SP r26 (kb_put S.put.F) pass0 (pk_cons (pe_tup (pa_cons (pe_tup (pa_cons pe_int (pa_cons pe_int pa_nil))) pa_nil)) (pk_cons pe_str pk_nil))))
        (pss_cons (ps_if (PW.pt (pw_or (pt_cmpR op_ne (pe_callB (call_repV hr hg) (by rfl) X.repr PyProof.Rows.boot_repr (pa_cons (pe_methK0 (E := fun _ _ _ => False) (pv 11) S.c S.tree.M ST r4 (kb_stree S.tree.F) (passes_call LamX.takes0 fun _ _ _ _ h => h) (pk_cons pe_str pk_nil)) pa_nil))
              (pe_callB (call_repQ hr hg) (by rfl) X.repr PyProof.Rows.boot_repr (pa_cons (pe_tup (pa_cons pe_str (pa_cons pe_int (pa_cons pe_int pa_nil)))) pa_nil)) (nomark _))
            (pw_or1 (pt_cmpR op_notN (pe_methK0 (E := fun _ _ _ => False) (pv 11) S.c S.drop.M SD r4 (kb_drop S.drop.F) (passes_call LamX.takes0 fun _ _ _ _ h => h) (pk_cons pe_str pk_nil)) pe_non (nomark _))))) (pss_one (ps_ret pe_bl)) pss_nil)
        (pss_one (ps_if (pt_cmpR op_ne (pe_callB (call_repQ hr hg) (by rfl) X.repr PyProof.Rows.boot_repr (pa_cons
              (LamX.pe_lamcall (T := tabL Pt) (TT := TCau EF) (k := 4) (t := fun E => tMeth S.C "tree" (spST S.C EF.cO) [] E (tVar 11) (tCons (tC (.str "byname")) tNil)) (by rfl) X.gl_caught X.fl_caught.kp rlk rhc rb scCau rfl (.inl rfl)
                (cau_gives (X := (cxOf CX0 P w K mg base nmLaw "law" (defScope sLaw) f (.ref cc) A outer s H E).nox) EF X.isinstance) TB (by rfl) (List.mem_cons_self) (fun x hx _ => by rw [List.mem_singleton.mp hx]; rfl) r6 (LamX.lamS_by (by rfl)) (by rfl) (fun _ _ _ _ _ => rfl)
                (fun A outer s H E f c' hr' => pe_meth (E := E) (pv 11) S.c S.tree.M ST hr' S.tree.b .nil (passes_call (takes_of rfl rfl rfl rfl) fun _ _ _ _ h => h) (pa_cons pe_str pa_nil))) pa_nil))
            (pe_callB (call_repQ hr hg) (by rfl) X.repr PyProof.Rows.boot_repr (pa_cons (pe_tup (pa_cons pe_str (pa_cons pe_str pa_nil))) pa_nil)) (nomark _)) (pss_one (ps_ret pe_bl)) pss_nil))))))))
      (pss_one (ps_ret pe_bl)), ?_⟩
    refine ⟨.ref a, rfl, a, _, rfl, .inl hS, 3, _, rfl, 1, _, rfl, _, rfl, ?_, ?_, ?_⟩
    · show -(2 ^ 62) ≤ (if (if (((ns.map V.int).length : Nat) : Int) < 3 then (((ns.map V.int).length : Nat) : Int) else 3) > 1 then (if (((ns.map V.int).length : Nat) : Int) < 3 then (((ns.map V.int).length : Nat) : Int) else 3) else 1)
      split <;> (try split) <;> omega
    · show (if (if (((ns.map V.int).length : Nat) : Int) < 3 then (((ns.map V.int).length : Nat) : Int) else 3) > 1 then (if (((ns.map V.int).length : Nat) : Int) < 3 then (((ns.map V.int).length : Nat) : Int) else 3) else 1) < 2 ^ 62
      split <;> (try split) <;> omega
    have turns : (if (if (((ns.map V.int).length : Nat) : Int) < 3 then (((ns.map V.int).length : Nat) : Int) else 3) > 1 then (if (((ns.map V.int).length : Nat) : Int) < 3 then (((ns.map V.int).length : Nat) : Int) else 3) else 1).toNat ≤ 3 := by
      split <;> (try split) <;> omega
    have tab0 : LamX.Tabs (tabL Pt) H := fun x hx => by
      rw [List.mem_singleton.mp hx]
      exact LamX.TabS.nil (hcs (cc, Pt) List.mem_cons_self)
    refine for_range (fun i σ H' => ∃ y1 y2 y3 y4 y5 y6 y7 y8 y9 y10 y11, σ = [some (.ref a), y1, y2, y3, y4, y5, y6, y7, y8, y9, y10, y11] ∧ LamX.ExtN H H' ∧ LamX.Tabs (tabL Pt) H') ⟨none, none, none, none, none, none, none, none, none, none, none, rfl, (fun b o h _ => h), tab0⟩ (fun k σ H1 hk hp => ?_) (fun σ H' hp => ?_)
    rotate_left
    · exact q H'
    obtain ⟨y1, y2, y3, y4, y5, y6, y7, y8, y9, y10, y11, rfl, smH, t1⟩ := hp
    have hk3 : k < 3 := Nat.lt_of_lt_of_le hk turns
    refine gn ?_
    refine seq_asg ?_
    refine ⟨.ref a, rfl, _, rfl, a, ns, k, ?_, ext_sqL smH hS, by omega, by omega, fun p o np po => ?_⟩
    · show [V.ref a, V.int (0 + (k : Int))] = _
      rw [Int.zero_add]
    have p2 : Pot (upd H1 p o) p 0 := Pot.put po
    have s12 : Same H1 (upd H1 p o) := sameN np
    generalize upd H1 p o = H2 at p2 s12 ⊢
    refine fun s dx ns ndx ne => ?_
    have s23 : Same H2 (upd (upd H2 dx (.own s)) s (.ins S.C dx [])) := (sameN ndx).trans (sameN (by rw [upd_ne ne.symm]; exact ns))
    refine ⟨s, dx, rfl, upd_same, fun H4 L hS4 fr nL => ⟨rfl, ?_⟩⟩
    have s24 : Same H2 H4 := fun b o e => fr b o (ne_of_none e ns) (s23 _ _ e)
    have pL : p ≠ L := (p2.same s23).ne nL |>.symm
    have nL1 : H1 L = none := none_of (s12.trans s23) nL
    have nS1 : H1 s = none := none_of s12 ns
    intro M nM
    have nM1 : H1 M = none := none_of (s12.trans s24) nM
    refine ⟨(show 3 ≤ sizeLine by decide), fun t nt => ⟨t, _, rfl, .inl (.inl upd_same), rfl, _, _, rfl, _, _, rfl, _, [], rfl, rfl, ?_⟩⟩
    have s45 : Same H4 (upd H4 M (.dK [])) := sameN nM
    have s46 := s45.trans (sameN (o := .tup [.ref p, .ref s, .ref M]) nt)
    have x6 : Sts K S.C p s L M (tabL Pt) H1 (upd (upd H4 M (.dK [])) t (.tup [.ref p, .ref s, .ref M])) [] [] [] 0 :=
      { ext := ext_same ((s12.trans s24).trans s46), pot := (p2.same s24).same s46, sto := (hS4.z (Z' := fun b => b = M) fun b hb => by rw [hb]; exact nM).same s46, mod := by rw [upd_ne (ne_of_none upd_same nt)]; exact upd_same, rel := .nil, tab := tabs_same t1 ((s12.trans s24).trans s46), pL := pL, n1 := np, n2 := nS1, n3 := nL1, n4 := nM1 }
    generalize upd (upd H4 M (.dK [])) t (.tup [.ref p, .ref s, .ref M]) = H6 at x6
    refine gn ?_
    refine ⟨30, rfl, by decide, by decide, ?_⟩
    refine for_range (fun i σ H' => ∃ m mv os z1 z5 z6 z7 z8 z9 z10, σ = [some (.ref a), z1, some (.ref p), some (.ref M), some (.int ((os.length : Nat) : Int)), z5, z6, z7, z8, z9, z10, some (.ref s)] ∧ Sts K S.C p s L M (tabL Pt) H1 H' m mv os (1010 * i) ∧ os.length ≤ i ∧ m.length ≤ i) ⟨[], [], [], _, _, _, _, _, _, _, rfl, x6, Nat.le_refl _, Nat.le_refl _⟩ (fun i σ H7 hi hp => ?_) (fun σ H7 hp => ?_)
    · obtain ⟨m, mv, os, z1, z5, z6, z7, z8, z9, z10, rfl, x7, lo, lm⟩ := hp
      have hi' : i < 30 := hi
      refine gn ?_
      refine seq_asg ?_
      refine ⟨.ref p, rfl, p, 1010 * i, rfl, x7.pot, by omega, fun n H8 hn b8 p8 => ?_⟩
      have nm := six_nm n hn
      have x8 := x7.but b8 p8
      refine ⟨.ref p, rfl, p, 12, 1010 * i + 1, rfl, by decide, p8, by omega, fun H9 g ws gs b9 ng hg kP giv lg p9 => ?_⟩
      have x9 := x8.but b9 p9
      refine ⟨(show 2 ≤ sizeLine by decide), fun t2 nt2 => ⟨t2, _, rfl, .inl (.inl upd_same), rfl, _, _, rfl, _, [], rfl, rfl, ?_⟩⟩
      have s10 : Same H9 (upd H9 t2 (.tup [.str n, .ref g])) := sameN nt2
      have x10 := x9.same s10
      have hg10 := s10 _ _ hg
      have kP10 : PrsV K (upd H9 t2 (.tup [.str n, .ref g])) ws gs := PrsV.up (.of s10) kP
      generalize upd H9 t2 (.tup [.str n, .ref g]) = H10 at x10 hg10 kP10
      have hgT : SqT K H10 g ws := .inl (.inl hg10)
      have l300 : gs.length ≤ 300 := by omega
      have l60 : m.length < 60 := by omega
      refine if_mid (fun σ' H' => ∃ m' mv' os' z5 td dv z8 z9 z10 x y, σ' = [some (.ref a), z1, some (.ref p), some (.ref M), some (.int ((os'.length : Nat) : Int)), z5, some dv, some td, z8, z9, z10, some (.ref s)] ∧ Sts K S.C p s L M (tabL Pt) H1 H' m' mv' os' (1010 * (i + 1)) ∧ os'.length ≤ i + 1 ∧ m'.length ≤ i + 1 ∧ Ans K H' td x y ∧ Ans K H' dv x y ∧ (x = "returned" ∨ x = "none") ∧ (∀ n, y = some n → Nm n)) (fun key => ?_) ?_
      · refine ⟨.ref p, rfl, p, 4, _, rfl, x10.pot, by omega, by decide, by decide, fun d H11 d0 d4 b11 p11 => ?_⟩
        have x11 := x10.but b11 p11
        refine ⟨rfl, _, rfl, ?_⟩
        have hg11 : SqT K H11 g ws := (b11.tupsP x10.pot) _ _ hgT
        have kP11 : PrsV K H11 ws gs := PrsV.up (b11.tupsP x10.pot) kP10
        generalize decide (V.int d = V.int (0 : Int)) = bb
        have hZ : ∀ {H'}, Sts K S.C p s L M (tabL Pt) H1 H' m mv os (1010 * i + 1 + 1000 + 1) → ∀ b, b = M → H' b ≠ none := fun x b hb => by
          rw [hb, x.mod]
          exact fun z => by cases z
        cases bb with
        | true =>
          refine iteT ?_
          refine seq_asg ?_
          refine ⟨.str n, rfl, .ref M, rfl, M, _, rfl, .inl ⟨_, .inr n, .inl x11.mod, rfl, rfl⟩, _, rfl, ?_⟩
          rw [ksget]
          rcases pk_get rel_key x11.rel (n := n) with ⟨g1, g2⟩ | ⟨u, v, g1, g2, gr⟩
          · rw [g2]
            refine iteF ⟨.str n, rfl, (show 2 ≤ sizeLine by decide), fun t3 nt3 => ?_⟩
            have x12 := x11.same (sameN (o := .tup [.str "none", .str n]) nt3)
            have a12 : Ans K (upd H11 t3 (.tup [.str "none", .str n])) (.ref t3) "none" (some n) := ⟨t3, rfl, .inl (.inl upd_same)⟩
            generalize upd H11 t3 (.tup [.str "none", .str n]) = H12 at x12 a12
            refine gn ?_
            refine seq_asg ?_
            refine ⟨x12.tab, fun H13 e13 t13 R hR => ?_⟩
            have x13 := x12.extN e13 t13
            obtain ⟨D, dx', ds, h1, h2, h3, h4, h5⟩ := x13.sto.get
            refine ⟨.ref s, rfl, s, dx', _, rfl, h1, flds_no D L (by decide +kernel) (by decide +kernel), .str n, rfl, fun b => b = M, s, L, n, m, os, rfl, x13.sto, nm, hZ x13, by omega, (fun z => by rw [g1] at z; cases z), fun _ H14 d' s14 nd' => ?_⟩
            refine ⟨d', n, rfl, rfl, upd_same, fun H15 t4 s15 ht4 => ?_⟩
            have s1315 := (s14.trans (sameN nd')).trans s15
            have x15 := x13.same s1315
            have a15 : Ans K H15 (.ref t3) "none" (some n) := (a12.up (ext_tups e13)).up (.of s1315)
            refine gn ?_
            refine seq_asg ?_
            refine ⟨_, rfl, .str n, rfl, .ref M, rfl, M, _, rfl, .inl ⟨_, .inr n, .inl x15.mod, rfl, rfl⟩, .inr ⟨_, rfl, _, _, rfl, rfl, ?_⟩⟩
            refine gn ?_
            refine ⟨.ref M, rfl, M, rfl, isd_kv x15.mod, .str n, rfl, kv mv, .inr n, x15.mod, rfl, (fun v hv => by rw [ksget, g2] at hv; cases hv), fun _ => ?_⟩
            refine key _ _ ⟨m, mv, os, some (.int (0 + (i : Int))), .ref t4, .ref t3, z8, some (.ref g), some (.str n), "none", some n, ?_, ?_, by omega, by omega, ⟨t4, rfl, .inl (.inl ht4)⟩, a15, .inr rfl, fun n' e => by cases e; exact nm⟩
            · rw [ksget, g2]
              simp
            · exact { x15 with pot := x15.pot.le (by omega) }
          · rw [g2]
            refine iteT ⟨(show 2 ≤ sizeLine by decide), fun t3 nt3 => ?_⟩
            have x12 := x11.same (sameN (o := .tup [.str "returned", .non]) nt3)
            have a12 : Ans K (upd H11 t3 (.tup [.str "returned", .non])) (.ref t3) "returned" none := ⟨t3, rfl, .inl (.inl upd_same)⟩
            generalize upd H11 t3 (.tup [.str "returned", .non]) = H12 at x12 a12
            refine gn ?_
            refine seq_asg ?_
            refine ⟨x12.tab, fun H13 e13 t13 R hR => ?_⟩
            have x13 := x12.extN e13 t13
            obtain ⟨D, dx', ds, h1, h2, h3, h4, h5⟩ := x13.sto.get
            refine ⟨.ref s, rfl, s, dx', _, rfl, h1, flds_no D L (by decide +kernel) (by decide +kernel), .str n, rfl, fun b => b = M, s, L, n, m, os, rfl, x13.sto, nm, hZ x13, by omega, (fun _ H14 hS14 fs => hR _ _ fun t4 nt4 => ?_), (fun z => by rw [g1] at z; cases z)⟩
            obtain ⟨w1, w2, w3, w4, w5⟩ := x13.fs fs hS14
            have s15 : Same H14 (upd H14 t4 (.tup [.str "returned", .non])) := sameN nt4
            have a15 : Ans K (upd H14 t4 (.tup [.str "returned", .non])) (.ref t3) "returned" none := ((a12.up (ext_tups e13)).up w4).up (.of s15)
            have b15 : Ans K (upd H14 t4 (.tup [.str "returned", .non])) (.ref t4) "returned" none := ⟨t4, rfl, .inl (.inl upd_same)⟩
            have v1 := ext_tr w1 (ext_same s15)
            have v2 := w2.same s15
            have v3 := s15 _ _ w3
            have v4 := rels_up (rels_up x13.rel w4) (.of s15)
            have v5 := tabs_same w5 s15
            have v6 := hS14.same s15
            generalize upd H14 t4 (.tup [.str "returned", .non]) = H15 at a15 b15 v1 v2 v3 v4 v5 v6
            refine gn ?_
            refine seq_asg ?_
            refine ⟨_, rfl, .str n, rfl, .ref M, rfl, M, _, rfl, .inl ⟨_, .inr n, .inl v3, rfl, rfl⟩, .inr ⟨_, rfl, _, _, rfl, rfl, ?_⟩⟩
            refine gn ?_
            refine ⟨.ref M, rfl, M, rfl, isd_kv v3, .str n, rfl, kv mv, .inr n, v3, rfl, (fun v' _ => ?_), fun z => by rw [ksget, g2] at z; cases z⟩
            rw [ksdrop]
            have x16 := Sts.mk2 v1 v2 v6 v3 v5 pL np nS1 nL1 nM1 (pk_drop rel_key (n := n) v4)
            have up16 : Tups K H15 (upd H15 M (.dK (kv (dropS mv n)))) := fun b xs h => by
              rcases h with (h | ⟨o, h⟩) | h
              · exact .inl (.inl (by rw [upd_ne (fun z => by rw [z, v3] at h; cases h)]; exact h))
              · exact .inl (.inr ⟨o, by rw [upd_ne (fun z => by rw [z, v3] at h; cases h)]; exact h⟩)
              · exact .inr h
            refine key _ _ ⟨dropS m n, dropS mv n, os ++ [m], some (.int (0 + (i : Int))), .ref t4, .ref t3, z8, some (.ref g), some (.str n), "returned", none, ?_, { x16 with pot := x16.pot.le (by omega) }, by rw [List.length_append]; exact Nat.succ_le_succ lo, Nat.le_trans dropS_len (by omega), b15.up up16, a15.up up16, .inl rfl, fun n' e => by cases e⟩
            rw [ksget, g2]
            simp
        | false =>
          refine iteF ?_
          refine ⟨(show 2 ≤ sizeLine by decide), fun t3 nt3 => ?_⟩
          have x12 := x11.same (sameN (o := .tup [.str "returned", .non]) nt3)
          have a12 : Ans K (upd H11 t3 (.tup [.str "returned", .non])) (.ref t3) "returned" none := ⟨t3, rfl, .inl (.inl upd_same)⟩
          have hg12 : SqT K (upd H11 t3 (.tup [.str "returned", .non])) g ws := sameT (sameN nt3) hg11
          have kP12 : PrsV K (upd H11 t3 (.tup [.str "returned", .non])) ws gs := PrsV.up (.of (sameN nt3)) kP11
          generalize upd H11 t3 (.tup [.str "returned", .non]) = H12 at x12 a12 hg12 kP12
          refine ⟨_, rfl, _, _, rfl, rfl, _, _, rfl, ?_⟩
          refine nx_of ?_
          refine seq_asg ?_
          refine ⟨x12.tab, fun H13 e13 t13 R hR => ?_⟩
          have x13 := x12.extN e13 t13
          have hg13 := ext_tups (K := K) e13 _ _ hg12
          have kP13 := PrsV.up (ext_tups e13) kP12
          obtain ⟨D, dx', ds, h1, h2, h3, h4, h5⟩ := x13.sto.get
          refine ⟨.ref s, rfl, s, dx', _, rfl, h1, flds_no D L (by decide +kernel) (by decide +kernel), .str n, rfl, .ref g, rfl, fun b => b = M, s, L, g, n, ws, gs, m, os, rfl, x13.sto, hZ x13, nm, hg13, kP13, giv, l300, by omega, .inr l60, by omega, fun u H14 hu hS14 fs => hR _ _ fun t4 nt4 => ?_⟩
          obtain ⟨w1, w2, w3, w4, w5⟩ := x13.fs fs hS14
          have s15 : Same H14 (upd H14 t4 (.tup [.str "returned", .non])) := sameN nt4
          have a15 : Ans K (upd H14 t4 (.tup [.str "returned", .non])) (.ref t3) "returned" none := ((a12.up (ext_tups e13)).up w4).up (.of s15)
          have b15 : Ans K (upd H14 t4 (.tup [.str "returned", .non])) (.ref t4) "returned" none := ⟨t4, rfl, .inl (.inl upd_same)⟩
          have v1 := ext_tr w1 (ext_same s15)
          have v2 := w2.same s15
          have v3 := s15 _ _ w3
          have v4 := rels_up (rels_up x13.rel w4) (.of s15)
          have v5 := tabs_same w5 s15
          have v6 := hS14.same s15
          have rl : Rel K (upd H14 t4 (.tup [.str "returned", .non])) (n, u) (n, .ref g) := ⟨rfl, nm, g, ws, gs, rfl, sameT s15 (w4 _ _ hg13), PrsV.up (.of s15) (PrsV.up w4 kP13), giv, l300, hu.up (.of s15)⟩
          generalize upd H14 t4 (.tup [.str "returned", .non]) = H15 at a15 b15 v1 v2 v3 v4 v5 v6 rl
          refine gn ?_
          refine ⟨.ref g, rfl, .ref M, rfl, .str n, rfl, M, _, rfl, .inl ⟨kv mv, .inr n, v3, rfl, by rw [kslen, ← paired_len v4]; exact Nat.lt_of_lt_of_le l60 (by decide), rfl⟩, ?_⟩
          rw [ksput]
          have x16 := Sts.mk2 v1 v2 v6 v3 v5 pL np nS1 nL1 nM1 (pk_put rel_key rl v4)
          have up16 : Tups K H15 (upd H15 M (.dK (kv (putS mv n (.ref g))))) := fun b xs h => by
            rcases h with (h | ⟨o, h⟩) | h
            · exact .inl (.inl (by rw [upd_ne (fun z => by rw [z, v3] at h; cases h)]; exact h))
            · exact .inl (.inr ⟨o, by rw [upd_ne (fun z => by rw [z, v3] at h; cases h)]; exact h⟩)
            · exact .inr h
          refine key _ _ ⟨putS m n u, putS mv n (.ref g), os ++ [m], some (.int (0 + (i : Int))), .ref t4, .ref t3, z8, some (.ref g), some (.str n), "returned", none, ?_, { x16 with pot := x16.pot.le (by omega) }, by rw [List.length_append]; exact Nat.succ_le_succ lo, Nat.le_trans putS_len.1 (Nat.succ_le_succ lm), b15.up up16, a15.up up16, .inl rfl, fun n' e => by cases e⟩
          rw [List.length_append]
          rfl
      · rintro σ' H11 ⟨m', mv', os', z5, td, dv, z8, z9, z10, x, y, rfl, x11, lo', lm', a1, a2, hx, hy⟩
        have key := pk_keys rel_key x11.rel
        have lmv : m'.length = mv'.length := paired_len x11.rel
        have allN : ∀ n ∈ m'.map (·.1), Nm n := fun n hn => by
          obtain ⟨e, he, rfl⟩ := List.mem_map.mp hn
          exact paired_left (fun x y (h : Rel K H11 x y) => h.2.1) x11.rel e he
        refine seq_no (Same H11) (fun R hR => ?_) (fun H12 s12 => ?_)
        · show tCB _ (tCons (tVar 7) tNil) _ _ _
          refine cb1_var td rfl (rep_any (Same.refl _) a1.dq (ans_sm hx hy) (by decide) (by decide) (by decide) ?_)
          show tCB _ (tCons (tVar 6) tNil) _ _ _
          refine cb1_var dv rfl (rep_any (Same.refl _) a2.dq (ans_sm hx hy) (by decide) (by decide) (by decide) ?_)
          refine ⟨rfl, false, by simp, iteF ?_⟩
          obtain ⟨D, dx', ds, h1, h2, h3, h4, h5⟩ := x11.sto.get
          refine ⟨.ref s, rfl, s, dx', _, rfl, h1, fun b => b = M, s, L, m', os', rfl, x11.sto, by omega, fun ys t4 H12 pm so s12 nt4 ht4 => ?_⟩
          refine ⟨.ref s, rfl, s, dx', _, rfl, s12 _ _ h1, fun b => b = M, s, L, m', os', rfl, x11.sto.same s12, m'.length, rfl, by omega, ?_⟩
          refine ⟨(show 2 ≤ sizeLine by decide), fun D1 nD1 => ?_⟩
          have s13 := s12.trans (sameN (o := .lst [.ref t4, .int (m'.length : Nat)]) nD1)
          have q13 : Dq K (upd H12 D1 (.lst [.ref t4, .int (m'.length : Nat)])) (.ref D1) (.list [.tuple (ys.map .str), .int (m'.length : Nat)]) := .lst (.inl (.inl upd_same)) (.cons (.tup (.inl (.inl (sameN nD1 _ _ ht4))) (strs_dq ys)) (.cons (.int _) .nil))
          have nys : ∀ n ∈ ys, Nm n := fun n hn => allN n (pm.mem_iff.mp hn)
          have lys : ys.length = m'.length := by rw [pm.length_eq, List.length_map]
          generalize upd H12 D1 (.lst [.ref t4, .int (m'.length : Nat)]) = H13 at s13 q13
          dsimp only [tNil]
          refine (rep_any (Same.refl _) q13 (names_sm nys (by omega) (by omega)) (by decide) (by decide) (by decide) ?_ : rRepQ K [.ref D1] _ _)
          have x13 := x11.same s13
          refine ⟨.ref M, rfl, M, kv mv', mv'.map (·.1), rfl, .inl x13.mod, kskeys mv', by rw [List.length_map]; omega, fun zs D2 pm2 so2 nD2 => ?_⟩
          have ezs : zs = ys := sorted_one (pm2.trans (by rw [← key]; exact pm.symm)) so2 so
          subst ezs
          refine ⟨D2, _, rfl, .inl ⟨.inl (.inl upd_same), fun t5 nt5 => ?_⟩⟩
          have s14 := (sameN (o := .lst (zs.map V.str)) nD2).trans (sameN (o := .tup (zs.map V.str)) nt5)
          refine ⟨.ref M, rfl, M, kv mv', rfl, s14 _ _ x13.mod, ?_⟩
          refine ⟨(show 2 ≤ sizeLine by decide), fun D3 nD3 => ?_⟩
          have q15 : Dq K (upd (upd (upd H13 D2 (.lst (zs.map V.str))) t5 (.tup (zs.map V.str))) D3 (.lst [.ref t5, .int ((kv mv').length : Nat)])) (.ref D3) (.list [.tuple (zs.map .str), .int (m'.length : Nat)]) := .lst (.inl (.inl upd_same)) (.cons (.tup (.inl (.inl (sameN nD3 _ _ upd_same))) (strs_dq zs)) (.cons (by rw [kslen, ← lmv]; exact .int _) .nil))
          dsimp only [tNil]
          refine (rep_any (Same.refl _) q15 (names_sm nys (by omega) (by omega)) (by decide) (by decide) (by decide) ?_ : rRepQ K [.ref D3] _ _)
          exact ⟨rfl, false, by simp, hR _ ((s13.trans s14).trans (sameN nD3))⟩
        · have x12 := x11.same s12
          refine seq_no (Same H12) (fun R hR => ?_) (fun H13 s13 => ?_)
          · obtain ⟨D, dx', ds, h1, h2, h3, h4, h5⟩ := x12.sto.get
            refine ⟨.ref s, rfl, s, dx', _, rfl, h1, fun b => b = M, s, L, m', os', rfl, x12.sto, ?_⟩
            exact ⟨_, rfl, rfl, false, by simp, hR _ (Same.refl _)⟩
          · have x13 := x12.same s13
            refine ⟨.ref M, rfl, M, kv mv', mv'.map (·.1), rfl, .inl x13.mod, kskeys mv', by rw [List.length_map]; omega, fun zs D2 pm2 so2 nD2 => ?_⟩
            have s14 := sameN (o := .lst (zs.map V.str)) nD2
            refine ⟨D2, rfl, ⟨_, .inl (.inl upd_same)⟩, ?_⟩
            refine for_list (xs := zs.map V.str) (fun j σ H' => ∃ z8, σ = [some (.ref a), z1, some (.ref p), some (.ref M), some (.int ((os'.length : Nat) : Int)), z5, some dv, some td, z8, z9, z10, some (.ref s)] ∧ Same (upd H13 D2 (.lst (zs.map V.str))) H') ⟨_, rfl, Same.refl _⟩ (fun j σ H' _ hq => ?_) (fun j v σ H14 hv hq => ?_) (fun σ H14 hq => ?_)
            · obtain ⟨_, _, s15⟩ := hq
              exact s15.seq (.inl (.inl upd_same))
            · obtain ⟨z8, rfl, s15⟩ := hq
              rw [List.getElem?_map] at hv
              obtain ⟨n, hn, rfl⟩ := Option.map_eq_some_iff.mp hv
              have x15 := (x13.same s14).same s15
              have mem : n ∈ mv'.map (·.1) := pm2.mem_iff.mp (List.mem_of_getElem? hn)
              refine gn ?_
              rcases pk_get rel_key x15.rel (n := n) with ⟨_, g2⟩ | ⟨u, v, g1, g2, gr⟩
              · exact absurd mem (getS_none g2)
              obtain ⟨_, nm, g, ws, gs, rfl, hg, hP, giv, l3, hu⟩ := gr
              refine ifs_no (Same H14) (fun H' s16 => ⟨_, rfl, s15.trans s16⟩) (fun R hR => ?_)
              refine ne_treeX (gs := gs) (fun R' hR' => ?_) (fun H15 s16 R' hR' => ?_) fun H' s16 => hR _ s16
              · obtain ⟨D, dx', ds, h1, h2, h3, h4, h5⟩ := x15.sto.get
                refine ⟨.ref s, rfl, s, dx', _, rfl, h1, flds_no D L (by decide +kernel) (by decide +kernel), .str n, rfl, fun b => b = M, s, L, n, m', os', rfl, x15.sto, nm, (fun v' hv' H' s17 => ?_), fun z => by rw [g1] at z; cases z⟩
                rw [g1] at hv'
                cases hv'
                exact hR' _ _ (hu.up (.of s17)) s17
              · refine ⟨.ref M, rfl, .str n, rfl, M, _, rfl, .inl ⟨kv mv', .inr n, .inl (s16 _ _ x15.mod), rfl, by rw [ksget]; exact g2.symm⟩, g, ws, gs, rfl, sameT s16 hg, PrsV.up (.of s16) hP, giv, l3, fun H' u' s17 hu' => hR' _ _ hu' s17⟩
            · obtain ⟨z8, rfl, s15⟩ := hq
              exact ⟨m', mv', os', _, _, _, _, _, _, _, rfl, (x13.same s14).same s15, lo', lm'⟩
    · obtain ⟨m, mv, os, z1, z5, z6, z7, z8, z9, z10, rfl, x7, lo, lm⟩ := hp
      have hm : m.length ≤ 30 := lm
      have ho : os.length ≤ 30 := lo
      obtain ⟨D, dx', ds, h1, h2, h3, h4, h5⟩ := x7.sto.get
      refine nx_of ?_
      refine ⟨.ref s, rfl, s, dx', _, rfl, h1, flds_no D L (by decide +kernel) (by decide +kernel), ?_⟩
      refine ⟨(show 2 ≤ sizeLine by decide), fun t1 n1 => ⟨(show 1 ≤ sizeLine by decide), fun t2 n2 => ?_⟩⟩
      have s8 := (sameN (o := .tup [.int 3, .int 2]) n1).trans (sameN (o := .tup [.ref t1]) n2)
      have x8 := x7.same s8
      have g1 : SqT K (upd (upd H7 t1 (.tup [.int 3, .int 2])) t2 (.tup [.ref t1])) t1 [.int 3, .int 2] := sameT (sameN n2) (.inl (.inl upd_same))
      have g2 : SqT K (upd (upd H7 t1 (.tup [.int 3, .int 2])) t2 (.tup [.ref t1])) t2 [.ref t1] := .inl (.inl upd_same)
      generalize upd (upd H7 t1 (.tup [.int 3, .int 2])) t2 (.tup [.ref t1]) = H8 at s8 x8 g1 g2
      refine ⟨rfl, rfl, fun b => b = M, s, L, t2, "byname", [.ref t1], [(.el 3, 2)], m, os, rfl, x8.sto, (fun b hb => by rw [hb, x8.mod]; exact fun z => by cases z), nm_by, g2, .cons (.tup g1 (.cons (by rw [dat]; exact .int 3) (.cons (.int 2) .nil))) .nil, giv_by, by decide, by omega, .inr (by omega), by omega, fun u H9 hu hS9 fs => ?_⟩
      obtain ⟨w1, w2, w3, w4, w5⟩ := x8.fs fs hS9
      have lp : (putS m "byname" u).length ≤ 31 := Nat.le_trans putS_len.1 (by omega)
      refine nx_of ?_
      refine seq_no (fun H' => ∃ m2 os2, StoV (fun b => b = M) S.C H' s L m2 os2 ∧ getS m2 "byname" = none ∧ LamX.ExtN H1 H' ∧ LamX.Tabs (tabL Pt) H') (fun R hR => ?_) (fun H10 h10 => ?_)
      · obtain ⟨D, dx', ds, h1, h2, h3, h4, h5⟩ := hS9.get
        refine ⟨.ref s, rfl, s, dx', _, rfl, h1, flds_no D L (by decide +kernel) (by decide +kernel), rfl, rfl, fun b => b = M, s, L, "byname", _, _, rfl, hS9, nm_by, (fun v' hv' H10 s10 => ?_), fun z => by rw [get_put] at z; cases z⟩
        rw [get_put] at hv'
        cases hv'
        rcases hu.up (.of s10) with ⟨z, _⟩ | ⟨_, n, l, hn, okn, l8, _, _, en, top⟩
        · cases z
        have e1 : n = .run (.el 3) 2 := top_single en top
        subst e1
        dsimp only [tNil]
        refine (rep_tree hn okn l8 ?_ : rRepV K [u] H10 _)
        refine ⟨(show 3 ≤ sizeLine by decide), fun t3 n3 => ?_⟩
        have q11 : Dq K (upd H10 t3 (.tup [.str "run", .int 3, .int 2])) (.ref t3) (.tuple [.str "run", .int 3, .int 2]) := .tup (.inl (.inl upd_same)) (.cons (.str _) (.cons (.int _) (.cons (.int _) .nil)))
        have s11 := s10.trans (sameN (o := .tup [.str "run", .int 3, .int 2]) n3)
        generalize upd H10 t3 (.tup [.str "run", .int 3, .int 2]) = H11 at q11 s11
        dsimp only [tNil]
        refine (rep_any (t := 4) (m := 60) (b := 100000) (Same.refl _) q11 (sm_of (by decide +kernel)) (by decide) (by decide) (by decide) ?_ : rRepQ K [.ref t3] _ _)
        refine ⟨rfl, false, ?_, iteF ?_⟩
        · rw [dat, dat]
          simp
        have hS11 := hS9.same s11
        obtain ⟨D2, dx2, ds2, i1, i2, i3, i4, i5⟩ := hS11.get
        refine ⟨.ref s, rfl, s, dx2, _, rfl, i1, flds_no D2 L (by decide +kernel) (by decide +kernel), rfl, rfl, fun b => b = M, s, L, "byname", _, _, rfl, hS11, nm_by, (fun b hb => by rw [hb, s11 _ _ w3]; exact fun z => by cases z), by rw [List.length_append]; show os.length + 1 ≤ 100000; omega, (fun _ H12 hS12 fs2 => ?_), fun z => by rw [get_put] at z; cases z⟩
        refine ⟨rfl, _, rfl, ?_⟩
        have x11 : LamX.ExtN H1 H11 := ext_tr w1 (ext_same s11)
        exact hR _ ⟨_, _, hS12, get_drop, (fun b o h t => fs2 b o (fun z => by rw [z, nS1] at h; cases h) (fun z => by rw [z, nL1] at h; cases h) (x11 b o h t)), tabs_fs (tabs_same w5 s11) hS11 fs2⟩
      · obtain ⟨m2, os2, hS10, g10, e10, t10⟩ := h10
        refine ifs_no (fun H' => LamX.ExtN H1 H' ∧ LamX.Tabs (tabL Pt) H') (fun H' hH => ⟨_, _, _, _, _, _, _, _, _, _, _, rfl, ext_tr smH hH.1, hH.2⟩) (fun R hR => ?_)
        refine ⟨t10, fun H11 e11 t11 R' hR' => ?_⟩
        have hS11 := hS10.ext e11
        obtain ⟨D2, dx2, ds2, i1, i2, i3, i4, i5⟩ := hS11.get
        refine ⟨.ref s, rfl, s, dx2, _, rfl, i1, flds_no D2 L (by decide +kernel) (by decide +kernel), fun b => b = M, s, L, "byname", _, _, rfl, hS11, nm_by, (fun v' hv' => by rw [g10] at hv'; cases hv'), fun _ H12 d' s12 nd' => ?_⟩
        refine ⟨d', "byname", rfl, rfl, upd_same, fun H13 t4 s13 ht4 => ?_⟩
        have s14 := (s12.trans (sameN nd')).trans s13
        have a13 : Ans K H13 (.ref t4) "none" (some "byname") := ⟨t4, rfl, .inl (.inl ht4)⟩
        have am := ans_sm (x := "none") (y := some "byname") (.inr rfl) fun n e => by cases e; exact nm_by
        dsimp only [tNil]
        refine (rep_any (Same.refl _) a13.dq am (by decide) (by decide) (by decide) ?_ : rRepQ K [.ref t4] _ _)
        refine ⟨(show 2 ≤ sizeLine by decide), fun t5 n5 => ?_⟩
        have a15 : Ans K (upd H13 t5 (.tup [.str "none", .str "byname"])) (.ref t5) "none" (some "byname") := ⟨t5, rfl, .inl (.inl upd_same)⟩
        have s15 := s14.trans (sameN (o := .tup [.str "none", .str "byname"]) n5)
        generalize upd H13 t5 (.tup [.str "none", .str "byname"]) = H15 at a15 s15
        dsimp only [tNil]
        refine (rep_any (Same.refl _) a15.dq am (by decide) (by decide) (by decide) ?_ : rRepQ K [.ref t5] _ _)
        exact ⟨rfl, false, by simp, hR _ ⟨ext_tr (ext_tr e10 e11) (ext_same s15), tabs_same t11 s15⟩⟩
end
end C64

set_option Elab.async false
set_option linter.all false
set_option maxRecDepth 100000
set_option maxHeartbeats 2000000
/-! ### errors that are kept, with a dict or without -/
namespace Loc
namespace Z
open PySem PySem.Spec PyProof.Rows L2
/-- an error of the class at C, its dict at d -/
def ErrO (C : Addr) (d : Option Addr) (a : Addr) : HO := .ext fun h => ∃ (oe : Obj) (vs : Array Value), h.get? a = some oe ∧ Zc (.ref C) d oe ∧ oe.data = .fields vs
theorem errO_ok {P : Program} {w : World} {H : Hp} {h : Heap} {C a : Addr} {d : Option Addr} {oe : Obj} {vs : Array Value} (e : h.get? a = some oe) (z : Zc (.ref C) d oe) (q : oe.data = .fields vs) : ObjOk P w H h a (ErrO C d a) :=
  ⟨⟨oe, vs, e, z, q⟩, ⟨oe, e⟩, fun _ _ ⟨o, v, r1, r2⟩ k => ⟨o, v, k o r1, r2⟩⟩
/-- what is wished of the body's error by 'except x as n: m = n' -/
def wKeep (K : PySem.W.Frag) (c : Value) (i j : Nat) (Wout : WX) (D : Ends) : WX := fun cls d σ H =>
  ∃ b, PySem.W.exmOne K cls c = some b ∧ (b = true → ∃ C, cls = .ref C ∧ ∀ a, H a = none → D.nx (((σ.set i (some (.ref a))).set j (some (.ref a))).set i none) (upd H a (ErrO C d a))) ∧ (b = false → Wout cls d σ H)
section
variable {X : Cx} {x n m : Str} {c : Value} {i j : Nat} {body : List Stmt} {np pos pos' q1 q2 q3 : Pos} {tb : WX → TS} {Wout : WX}
theorem ps_try_keep (hs : X.stack = X.env :: X.outer) (hf : X.env.frame = some X.env.locals) (hN : X.N.Nodup) (hi : X.N[i]? = some n) (hln : X.env.kindOf n = some .local) (hj : X.N[j]? = some m) (hlm : X.env.kindOf m = some .local) (hij : i < X.N.length) (hne : i ≠ j)
    (hex : X.ex = []) (hc : Names X x c) (tk : Takes X Wout) (hdn : (n == ("__debug__" : Str)) = false := by decide) (hcn : (n == ("__classdict__" : Str)) = false := by decide) 
    (hb : ∀ (W : WX) (pn : List (Addr × Obj)) (xe : Value → Shared → Prop), Takes (X.tr pn xe) W → PassesOwn (model X.prog X.w) X.A X.env xe → PSs (X.tr pn xe) body (tb W)) :
    PS X (.Try body [.ExceptHandler (some (.Name x np)) (some n) [.Assign [.Name m q1] (.Name n q2) q3] pos'] [] [] pos) (fun D σ H => tb (wKeep X.K c i j Wout D) D σ H) := by
  constructor
  intro pins s σ H D I h
  have ok := I.ok
  have frs1 : X.A.frames = some (X.env :: X.outer) := ok.frames.trans (congrArg some hs)
  refine wpAny_Try_except ?_
  let after : Value → Shared → Prop := fun e s1 => wpAny (model X.prog X.w) X.A (noteFrame e X.env) (fun _ s2 => wpAny (model X.prog X.w) X.A (setFlight e none) (fun _ s3 =>
      wpAny (model X.prog X.w) X.A (handleBy e X.env [.ExceptHandler (some (.Name x np)) (some n) [.Assign [.Name m q1] (.Name n q2) q3] pos']) (SP X pins D) X.xe s3) X.xe s2) X.xe s1
  have run := (hb (wKeep X.K c i j Wout D) (X.pn ++ pins) after (fun u s' air => ?_) PassesOwn.looking).run [] s σ H D (I.toTry _) h
  · refine wpAny_mono run (fun f s1 hsp => ?_) (fun e s1 he => he)
    cases f with
    | next =>
      obtain ⟨σ1, H1, J, k⟩ := hsp
      exact wpAny_execs_nil ⟨σ1, H1, J.ofTry ok, k⟩
    | ret u =>
      obtain ⟨v, σ1, H1, J, r, k⟩ := hsp
      exact ⟨v, σ1, H1, J.ofTry ok, r, k⟩
    | brk =>
      obtain ⟨σ1, H1, J, k⟩ := hsp
      exact ⟨σ1, H1, J.ofTry ok, k⟩
    | cont =>
      obtain ⟨σ1, H1, J, k⟩ := hsp
      exact ⟨σ1, H1, J.ofTry ok, k⟩
  · obtain ⟨a, B, sI, pins1, σ1, H1, cls, d, rfl, J0, ground, up, sky, na, os, ag, b, hb1, hyes, hno⟩ := air
    have J : Inv X pins σ1 H1 sI := J0.ofTry ok
    show after (.ref a) s'
    show wpAny (model X.prog X.w) X.A (noteFrame (.ref a) X.env) _ _ _
    have sky1 : Sky B (X.env :: X.outer) a (Zc cls d) X.env.locals s'.heap := hs ▸ sky
    have noB : B.get? a = none := by
      rcases sky1 with z | z | z
      · exact z.2.1
      · exact z.2.1
      · exact z.2.1
    refine Sky.land Zc.steady frs1 hf sky1 fun h3 fly up3 => ?_
    have J3 : Inv X pins σ1 H1 { s' with heap := h3 } := J.landed ground fly.1 (up.trans up3) os ag
    obtain ⟨oe3, vs3, he3, hz3, hd3⟩ := fly.there
    have noFr : a ∉ frs (X.env :: X.outer) := fun hm => by
      obtain ⟨_, o', e', hnf⟩ := fly.2.2.1.mem hm
      rw [he3] at e'
      cases e'
      exact hnf _ hd3
    have noL : a ≠ X.env.locals := fun z => noFr (List.mem_filterMap.mpr ⟨X.env, List.mem_cons_self, by rw [hf, z]⟩)
    have noF : a ∉ X.fs := fun hm => by
      obtain ⟨e, he, k⟩ := List.mem_filterMap.mp hm
      exact noFr (List.mem_filterMap.mpr ⟨e, List.mem_cons_of_mem _ he, k⟩)
    have noI : sI.heap.get? a = none := by
      cases e : sI.heap.get? a with
      | none => rfl
      | some o =>
        have := ground a o e (by rw [hs]; exact noFr)
        rw [noB] at this
        cases this
    have no0 : X.s_0.heap.get? a = none := by
      cases e : X.s_0.heap.get? a with
      | none => rfl
      | some o =>
        obtain ⟨o', e'⟩ := J.base.there a o e (by rw [hex]; exact fun z => nomatch z)
        rw [noI] at e'
        cases e'
    have noP : ∀ p ∈ X.pn ++ pins, p.1 ≠ a := fun p hp z => by
      have e := (J.pin p hp).1
      rw [z, noI] at e
      cases e
    have noC : ∀ y k, X.env.cells.lookup y = some k → k ≠ a := fun y k e z => by
      obtain ⟨v, o, ho, _⟩ := J.cell y k e
      rw [z, noI] at ho
      cases ho
    have S3 := J3.suite he3 hd3 na noL noF
    refine wpAny_handleBy_cons (codeAny_handlers_test ?_) (by intro z; cases z)
    have look := PySem.W.exm_one (M := model X.prog X.w) J3.kIn (fun A Q E s k z => wpAny_typeOf_ref (k _ _ he3) (by rw [hz3.1]; exact z)) hb1
    have named : ∀ {Q : Value → Shared → Prop} {E : Value → Shared → Prop}, Q c { s' with heap := h3 } → wpAny (model X.prog X.w) (X.A.mark (some (.ref a))) (eval (.Name x np) X.env) Q E { s' with heap := h3 } := fun {Q E} z => by
      obtain ⟨g1, g2, g3 | ⟨g3, g4, g5⟩⟩ := hc
      · exact ld_glob (X := X.suite a ((a, oe3) :: (X.pn ++ pins))) S3 g1 g3 z g2
      · exact ld_blt (X := X.suite a ((a, oe3) :: (X.pn ++ pins))) S3 g1 g3 g4 z g5 g2
    refine named (look.here ?_)
    cases b with
    | false =>
      show wpAny _ X.A (handleBy (.ref a) X.env []) _ _ _
      refine wpAny_handleBy_nil ?_
      obtain ⟨_, _, _, oe, vs, T, oT, ts', f1, f2, f3, f4, f5⟩ := id fly
      unfold PySem.passOn
      refine wpAny_bind (wpAny_field f1 f3 f4 ?_)
      have nz : ¬ ((Value.ref T == Value.none) = true) := by simp
      rw [if_neg nz]
      have out : wpAny (model X.prog X.w) X.A (setFlight (.ref a) X.env.frame) (fun _ s4 => wpAny (model X.prog X.w) X.A (throw (.ref a) : Sem Flow) (SP X pins D) X.xe s4) X.xe { s' with heap := h3 } := by
        rw [hf]
        refine HandSPX.setFlight_upZ fly fun h4 held up4 => wpAny_throw (tk _ _ ?_)
        refine ⟨a, B, sI, pins, σ1, H1, cls, d, rfl, J, ground, (up.trans up3).trans up4, .inr (.inr ?_), na, os, ag, hno rfl⟩
        rw [hs]
        exact held
      first
        | exact wpAny_bind (wpAny_pure (wpAny_bind out))
        | exact wpAny_bind out
    | true =>
      obtain ⟨C, rfl, fin⟩ := hyes rfl
      refine codeAny_handlers_suite_as ?_
      refine HandSPX.lands_againZ fly fun h4 fly4 up4 => ?_
      have J4 : Inv X pins σ1 H1 { s' with heap := h4 } := J.landed ground fly4.1 ((up.trans up3).trans up4) os ag
      obtain ⟨oe4, vs4, he4, hz4, hd4⟩ := fly4.there
      have S4 := J4.suite he4 hd4 na noL noF
      refine store_ok (X := X.suite a ((a, oe4) :: (X.pn ++ pins))) (v := .ref a) S4 hN hi (.inl hln) rfl (fun s5 S5 => ?_) (.inr hln)
      have put : PSs (X.suite a ((a, oe4) :: (X.pn ++ pins))) [.Assign [.Name m q1] (.Name n q2) q3] _ := pss_one (ps_set (i := j) hN hj (.inl hlm) (pe_var (i := i) hi (.inl hln) hdn hcn) (hf := .inr hlm))
      have ht : (σ1.set i (some (V.ref a)))[i]? = some (some (V.ref a)) := by
        rw [List.getElem?_set_self]
        rw [J4.len]
        exact hij
      refine wpAny_mono (put.run [] s5 _ H1 { nx := fun σ' H' => σ' = (σ1.set i (some (.ref a))).set j (some (.ref a)) ∧ H' = H1, rt := fun _ _ => False } S5 ⟨.ref a, ht, rfl, rfl⟩) (fun f s6 hsp => ?_) (fun _ _ z => False.elim z)
      cases f with
      | next =>
        obtain ⟨σ6, H6, S6, rfl, rfl⟩ := hsp
        have e6 := (S6.pin (a, oe4) (List.mem_append_left _ List.mem_cons_self)).1
        have T6 : Inv X pins ((σ1.set i (some (.ref a))).set j (some (.ref a))) (upd H6 a (ErrO C d a)) s6 := Inv.track (S6.unsuite ok) na noL no0 noP noC (errO_ok e6 hz4 hd4)
        exact gone_ok T6 hN hi hln fun s7 J7 => ⟨_, _, J7, fin a na⟩
      | brk =>
        obtain ⟨_, _, _, z⟩ := hsp
        exact False.elim z
      | cont =>
        obtain ⟨_, _, _, z⟩ := hsp
        exact False.elim z
      | ret u =>
        obtain ⟨_, _, _, _, _, z⟩ := hsp
        exact False.elim z
end
/-- such an error stands at a: its class, its attributes -/
def Err (H : Hp) (a C : Addr) (fs : List (Str × V)) : Prop := ∃ d, H a = some (ErrO C (some d) a) ∧ H d = some (.xd fs)
theorem Err.same {H H' : Hp} {a C : Addr} {fs : List (Str × V)} (h : Err H a C fs) (s : Same H H') : Err H' a C fs := let ⟨d, e1, e2⟩ := h; ⟨d, s _ _ e1, s _ _ e2⟩
section
variable {X : Cx} {pins : List (Addr × Obj)} {σ : L2.St} {H : Hp} {s : Shared} {a C : Addr} {fs : List (Str × V)}
theorem Err.inst (I : Inv X pins σ H s) (h : Err H a C fs) : ∃ oe od, PySem.W.InstAt s.heap a oe C (some od) ∧ ∀ n v, fs.lookup n = some v → ∃ u, PySem.W.lookIn n od = some (some u) ∧ RelV v u := by
  obtain ⟨d, e1, e2⟩ := h
  have k1 : ObjOk X.prog X.w H s.heap a (ErrO C (some d) a) := I.hok a _ e1
  obtain ⟨⟨oe, vs, g1, g2, g3⟩, _, _⟩ := k1
  have k2 : ObjOk X.prog X.w H s.heap d (.xd fs) := I.hok d _ e2
  obtain ⟨mA, ns, rel⟩ := k2
  obtain ⟨od, ho, hl⟩ := lookIn_ns ns
  refine ⟨oe, od, ⟨g1, g2.1, ?_, ?_⟩, fun n v e => ?_⟩
  · unfold PySem.W.notCls
    rw [g3]
  · rw [g2.2]
    exact ho
  · obtain ⟨u, hu, ru⟩ := RelO.some_of (v := v) (o := mA n) (by rw [← e]; exact rel n)
    exact ⟨u, by rw [hl, hu], ru⟩
/-- such an error, with a dict or without -/
def ErrA (H : Hp) (a C : Addr) : Prop := H a = some (ErrO C none a) ∨ ∃ fs, Err H a C fs
theorem ErrA.same {H H' : Hp} {a C : Addr} (h : ErrA H a C) (s : Same H H') : ErrA H' a C := h.imp (fun h => s _ _ h) fun ⟨fs, h⟩ => ⟨fs, h.same s⟩
theorem Err.any {H : Hp} {a C : Addr} {fs : List (Str × V)} (h : Err H a C fs) : ErrA H a C := .inr ⟨fs, h⟩
theorem ErrA.inst (I : Inv X pins σ H s) (h : ErrA H a C) : ∃ oe od, PySem.W.InstAt s.heap a oe C od := by
  rcases h with h | ⟨fs, h⟩
  · have k1 : ObjOk X.prog X.w H s.heap a (ErrO C none a) := I.hok a _ h
    obtain ⟨⟨oe, vs, g1, g2, g3⟩, _, _⟩ := k1
    refine ⟨oe, none, g1, g2.1, ?_, ?_⟩
    · unfold PySem.W.notCls
      rw [g3]
    · rw [g2.2]
      exact True.intro
  · obtain ⟨oe, od, J, _⟩ := h.inst I
    exact ⟨oe, some od, J⟩
/-- isinstance(e, c) -/
def rIsV (K : PySem.W.Frag) : List V → Hp → VK → Prop := fun xs H Q => ∃ (a C : Addr) (c : V) (cv : Value) (b : Bool), xs = [.ref a, c] ∧ ErrA H a C ∧ ErrC K C ∧ ClsV c cv ∧ PySem.W.kitOne K (.ref C) cv = some b ∧ Q (.bl b) H
theorem call_isV : CallR X (.builtin "isinstance") (rIsV X.K) := by
  intro pins s σ H xs us Q I r h
  obtain ⟨a, C, c, cv, b, rfl, he, k, hc, e, q⟩ := h
  obtain ⟨u1, u2, rfl, r1, r2⟩ := vals2 r
  have e2 := hc.eq r2
  subst e2
  cases (show u1 = Value.ref a from r1)
  obtain ⟨oe, od, J⟩ := he.inst I
  exact PySem.W.kia_one (PySem.W.kitx_exc k.cl k.ga k.gg k.sub k.at_ k.get k.tak k.mro) I.kIn J e (fun z => nomatch z) fun tk => ⟨.bl b, H, I.tok tk, rfl, q⟩
/-- isinstance(e, (c1, c2, ..)) -/
def rIsVT (K : PySem.W.Frag) : List V → Hp → VK → Prop := fun xs H Q => ∃ (a C tp : Addr) (cs : List V) (cvs : List Value) (b : Bool), xs = [.ref a, .ref tp] ∧ ErrA H a C ∧ ErrC K C ∧ H tp = some (.tup cs) ∧ Paired ClsV cs cvs ∧ PySem.W.kitAny K (.ref C) cvs = some b ∧ Q (.bl b) H
theorem call_isVT : CallR X (.builtin "isinstance") (rIsVT X.K) := by
  intro pins s σ H xs us Q I r h
  obtain ⟨a, C, tp, cs, cvs, b, rfl, he, k, hT, hc, e, q⟩ := h
  obtain ⟨u1, u2, rfl, r1, r2⟩ := vals2 r
  cases (show u1 = Value.ref a from r1)
  cases (show u2 = Value.ref tp from r2)
  obtain ⟨oe, od, J⟩ := he.inst I
  have kT : ObjOk X.prog X.w H s.heap tp (.tup cs) := I.hok tp _ hT
  obtain ⟨_, its, rv, o, h1, h2, n, h3⟩ := kT
  have e3 := ClsV.all hc rv
  subst e3
  obtain ⟨oc, od', dt, sl⟩ := o
  simp only at h2 h3
  subst h2 h3
  exact PySem.W.kia_tup (PySem.W.kitx_exc k.cl k.ga k.gg k.sub k.at_ k.get k.tak k.mro) I.kIn J h1 e (fun z => nomatch z) fun tk => ⟨.bl b, H, I.tok tk, rfl, q⟩
/-- e.f -/
def tErrF (K : PySem.W.Frag) (f : Str) (te : TE) : TE := fun σ H Q => te σ H fun x H1 => ∃ (a C : Addr) (fs : List (Str × V)) (v : V), x = .ref a ∧ Err H1 a C fs ∧ ErrC K C ∧ PySem.W.findIn K (.ref C) f = some none ∧ fs.lookup f = some v ∧ Q v H1
theorem pe_errf {e : Expr} {te : TE} {pos : Pos} {n : Str} (he : PE X e te) (hb : attributeBase e n X.env (eval e X.env) = eval e X.env := by rfl) : PE X (.Attribute e n pos) (tErrF X.K n te) := by
  constructor
  intro pins s σ H Q I h
  refine attr_of hb (thn (he.run pins s σ H _ I h) fun u s1 hu => ?_)
  obtain ⟨x, H1, I1, rx, a, C, fs, v, rfl, hE, k, hno, hl, q⟩ := hu
  cases (show u = Value.ref a from rx)
  obtain ⟨oe, od, J, look⟩ := hE.inst I1
  obtain ⟨u, hu, ru⟩ := look n v hl
  exact HandSPX.exc_get I1.kIn J k.ga k.gg k.sub (PySem.W.findObj_own k.hd hno rfl hu) (handed_of ru) ⟨v, H1, I1.tok _, ru, q⟩
end
end Z
end Loc

set_option Elab.async false
set_option linter.all false
set_option maxRecDepth 100000
set_option maxHeartbeats 2000000
/-! ### raising: two values, no values -/
namespace Loc
open PySem PySem.Spec PyProof.Rows L2
def spInitR (K : PySem.W.Frag) (C : Addr) (f g : Str) : Sp := fun vs H Q _ => ∃ (a : Addr) (v u : V), vs = [.ref a, v, u] ∧ OexC K C ∧ H a = some (exo a C none) ∧ PySem.W.findIn K (.ref C) f = some none ∧ PySem.W.findIn K (.ref C) g = some none ∧
  ∀ dx, H dx = none → dx ≠ a → Q .non (upd (upd (upd H dx (exd dx [(f, v)])) a (exo a C (some dx))) dx (exd dx [(g, u), (f, v)]))
theorem mk_two {K : PySem.W.Frag} {C : Addr} {f g : Str} {v u : V} {H : Hp} {Q : XK} (ox : OexC K C) (no : PySem.W.findIn K (.ref C) f = some none) (no2 : PySem.W.findIn K (.ref C) g = some none) (q : ∀ d, H d = none → Q (.ref C) (some d) (upd H d (.xd [(g, u), (f, v)]))) :
    [v, u].length ≤ 1000 ∧ ∀ a, H a = none → spInitR K C f g (.ref a :: ([v, u] ++ [])) (upd H a (exo a C none))
      (fun v' H2 => v' = .non ∧ ∃ (d : Addr) (fs : List (Str × V)), H2 a = some (exo a C (some d)) ∧ H2 d = some (exd d fs) ∧ H d = none ∧ Q (.ref C) (some d) (upd (L2.del H2 a) d (.xd fs))) (fun _ _ _ => False) := by
  refine ⟨(by show 2 ≤ 1000; decide), fun a na => ⟨a, v, u, rfl, ox, upd_same, no, no2, fun dx n ne => ⟨rfl, dx, [(g, u), (f, v)], by rw [upd_ne ne.symm, upd_same], upd_same, by rw [upd_ne ne] at n; exact n, ?_⟩⟩⟩
  have n' : H dx = none := by rw [upd_ne ne] at n; exact n
  have e : upd (L2.del (upd (upd (upd (upd H a (exo a C none)) dx (exd dx [(f, v)])) a (exo a C (some dx))) dx (exd dx [(g, u), (f, v)])) a) dx (.xd [(g, u), (f, v)]) = upd H dx (.xd [(g, u), (f, v)]) := by
    funext b
    by_cases h1 : b = dx
    · rw [h1, upd_same, upd_same]
    · rw [upd_ne h1, upd_ne h1]
      by_cases h2 : b = a
      · rw [h2, L2.del_same, na]
      · rw [L2.del_ne h2, upd_ne h1, upd_ne h2, upd_ne h1, upd_ne h2]
  rw [e]
  exact q dx n'
section
variable {X : Cx} {W : WX} {x f g q : Str} {st : Stmt} {C fI : Addr} {fd : FuncData} {k : Nat} {e e2 : Expr} {te te2 : TE} {p pos pos2 : Pos}
/-- raise x(e, e2) -/
theorem ps_raise2 (hc : X.calm = true) (tk : Takes X W) (T : Cls2 X.K X.mg x q f g st C fI fd) (F1 : FnOk X.prog X.w X.K X.mg X.base CX0 k fI fd ["self", f, g] (spInitR X.K C f g)) (hr : Room (k + 1) X.A) (ha : PE X e te) (ha2 : PE X e2 te2) (hg : Gl X x := by rfl)
    (hdb : (x == ("__debug__" : Str)) = false := by decide) (he : starEach (e :: [e2]) X.env = (false, eval e X.env) :: starEach [e2] X.env := by rfl) (he2 : starEach (e2 :: []) X.env = (false, eval e2 X.env) :: starEach [] X.env := by rfl) (hpl : (backTo pos (starEach [e2] X.env)).any (·.1) = false := by rfl) :
    PS X (.Raise (some (.Call (.Name x p) [e, e2] [] pos)) none pos2) (fun _ σ H => tMkO C (spInitR X.K C f g) [] (tCons te (tCons te2 tNil)) σ H fun cls d H' => W cls d σ H') :=
  ps_raise hc tk (pmk_oex T.ox T.iC T.tI F1 hr T.b .nil pass0 hg T.g (pa_cons ha (pa_cons ha2 pa_nil he2) he) hdb he hpl)
end
/-- what is known of an error class without an __init__ of its own -/
structure ClsN (K : PySem.W.Frag) (mg : Str → Option Value) (x : Str) (C : Addr) : Prop where
  g : mg x = some (.ref C)
  ex : PySem.W.excIn K C [.type "ValueError", .type "Exception", .type "BaseException", .type "object"] "ValueError.__new__" = true
  kp : PySem.W.keepIn K (.ref C) = true
  bs : PySem.W.subIn K (.ref C) (.type "BaseException") = some true
  ty : PySem.W.typeIn K (.ref C) = some (.type "type")
  er : ErrC K C
section
variable {X : Cx} {C : Addr} {bmB : List Value} {B newId initId : String}
/-- X() -/
theorem pmk_own0 {x : Str} {p pos : Pos} (F : ExcBaseFacts B newId initId bmB) (q : PySem.W.excIn X.K C bmB newId = true) (gC : X.mg x = some (.ref C)) (kC : PySem.W.keepIn X.K (.ref C) = true) (r : Raises X (.ref C)) (hg : Gl X x)
    (hdb : (x == ("__debug__" : Str)) = false := by decide) : PMk X (.Call (.Name x p) [] [] pos) (fun _ H Q => Q (.ref C) none H) := by
  intro pins s σ H Q I h
  refine wpAny_Call_Name_kw (ld_glob I hg gC ?_ hdb)
  refine PySem.W.callWith_K0 I.kIn kC ?_
  show wpAny _ _ (call (.ref C) []) _ _ _
  obtain ⟨bm, N, nm, qn, bs, hdct, sn, sub, ab, col, dd, k0, k1, k2, k3, k5, mN, hC, hN, hni, T⟩ := exc_obj I.kIn q
  refine wpAny_call_exc_subT F T hC hN hni (fun h' e hm => ?_) (Nat.zero_le _)
  exact mk_of I hm r h (I.hok.gone hm.new)
theorem ps_raise0 {W : WX} {x : Str} {p pos pos2 : Pos} (hc : X.calm = true) (tk : Takes X W) (T : ClsN X.K X.mg x C) (hg : Gl X x := by rfl) (hdb : (x == ("__debug__" : Str)) = false := by decide) :
    PS X (.Raise (some (.Call (.Name x p) [] [] pos)) none pos2) (fun _ σ H => W (.ref C) none σ H) :=
  ps_raise hc tk (pmk_own0 PySem.F.excBase_ValueError T.ex T.g T.kp (raises_own T.bs T.ty) hg hdb)
end
end Loc

set_option Elab.async false
set_option linter.all false
set_option maxRecDepth 100000
/-! ### the law's call where tables of code objects are written -/
namespace Loc
open PySem PySem.Spec PyProof.Rows L2 LamX
/-- what is known of the code objects and their tables before the call -/
structure TabsOk (K : PySem.W.Frag) (h : Heap) (cs : List (Addr × Addr)) : Prop where
  emp : ∀ p ∈ cs, h.get? p.2 = some { cls := .none, data := .fields #[] }
  out : ∀ p ∈ cs, K.lookup p.2 = none
  hd : ∀ p ∈ cs, PySem.W.CodeHd h p.1 p.2
theorem callGT {P : Program} {w : World} {K : PySem.W.Frag} {mg mb : Str → Option Value} {k : Nat} {fa a : Addr} {fd : FuncData} {x : Str} {sp : Sp} {s : Shared} {vs : List Value} {ns : List Int} {cs : List (Addr × Addr)}
    (KX : K.In s.heap) (g1 : s.heap.Ns mainGlobals mg) (g2 : s.heap.Ns builtinsNs mb) (g3 : ∀ x : Str, x ≠ "__name__" → mb x = bootBuiltins x) (lim : s.heap.NoLimit) (gs : s.gens = #[]) (T : TabsOk K s.heap cs)
    (bm : ∃ (bm : Addr) (ob : Obj), mg "__builtins__" = some (.ref bm) ∧ bm ≠ builtinsNs ∧ s.heap.get? bm = some ob ∧ ob.cls = .type "module" ∧ ob.dict = some builtinsNs ∧ ob.data = .plain)
    (ha : s.heap.get? a = some { cls := .type "list", data := .seq vs.toArray }) (hi : IntsAre vs ns) (hl : ns.length ≤ sizeLine) (hr : Room k callerA)
    (F : ∀ base : Heap, K.In base → base.Ns mainGlobals mg → (∀ p ∈ cs, TabB base mg p.1 p.2) → FnG P w K mg base CX0 k fa fd [x] sp) (hb : ∀ (s : Shared) (u : Value), BindsTo s fd ⟨[u], []⟩ [(x, u)])
    (hsp : ∀ H : Hp, SqL K H a (ns.map V.int) → (∀ p ∈ cs, H p.2 = some (.tbl #[])) → sp [.ref a] H (fun v _ => v = .bl true) fun _ _ _ => False) :
    codeAny (model P w) callerA (.call (.ref fa) ⟨[.ref a], []⟩) (fun r s' => r = .ok (.ret (.bool true)) ∧ OldK s.heap s'.heap ∧ s'.os = s.os ∧ AllBare s'.gens) s := by
  have rv := vals_ints hi
  have ln := hi.length
  have at_tab : ∀ {b : Addr} {o : Obj}, s.heap.get? b = some o → o.data ≠ .fields #[] → ∀ p ∈ cs, b ≠ p.2 := fun e nd p hp z => by
    rw [z, T.emp p hp] at e
    cases e
    exact nd rfl
  have a_tab : ∀ p ∈ cs, a ≠ p.2 := at_tab ha (fun z => by cases z)
  have main : ∀ H : Hp, (∀ b, H b = none ∨ (b = a ∧ K.lookup a = none ∧ ∃ o xs, H b = some (.frz o (.lst xs))) ∨ ∃ p ∈ cs, b = p.2 ∧ H b = some (.tbl #[])) → (∀ p ∈ cs, H p.2 = some (.tbl #[])) → SqL K H a (ns.map V.int) → HOk P w H s.heap →
      codeAny (model P w) callerA (.call (.ref fa) ⟨[.ref a], []⟩) (fun r s' => r = .ok (.ret (.bool true)) ∧ OldK s.heap s'.heap ∧ s'.os = s.os ∧ AllBare s'.gens) s := by
    intro H only tabs sq hok
    have seen : ∀ {b : Addr} {o : Obj}, s.heap.get? b = some o → (∀ vs n, o.data ≠ .seq vs n) → o.data ≠ .fields #[] → (hidT s.heap H).get? b = some o := fun {b o} e d1 d2 => hidT_get e (by
      rcases only b with z | ⟨rfl, _, _⟩ | ⟨p, hp, z, _⟩
      · exact z
      · rw [ha] at e
        cases e
        exact absurd rfl (d1 _ _)
      · exact absurd z (at_tab e d2 p hp))
    have nsOf : ∀ {b : Addr} {m : Str → Option Value}, s.heap.Ns b m → (hidT s.heap H).Ns b m := by
      rintro b m ⟨o, es, ep, e, d, r⟩
      refine ⟨o, es, ep, seen e (fun vs n z => ?_) (fun z => ?_), d, r⟩
      · rw [d] at z
        cases z
      · rw [d] at z
        cases z
    have kb : K.In (hidT s.heap H) := fun b o e => hidT_get (KX b o e) (by
      rcases only b with z | ⟨rfl, z, _⟩ | ⟨p, hp, z, _⟩
      · exact z
      · rw [z] at e
        cases e
      · rw [z, T.out p hp] at e
        cases e)
    have TB : ∀ p ∈ cs, TabB (hidT s.heap H) mg p.1 p.2 := fun p hp => by
      refine ⟨?_, ?_, fun z => ?_⟩
      · obtain ⟨o, us, file, tf, flags, tg, inF, text, tt, e1, r1, r2, r3, r⟩ := T.hd p hp
        refine ⟨o, us, file, tf, flags, tg, inF, text, tt, seen e1 (fun vs n z => ?_) (fun z => ?_), r1, r2, r3, r⟩
        · rw [r2] at z
          cases z
        · rw [r2] at z
          cases z
          simp at r3
      · obtain ⟨bm, ob, b1, b2, b3, b4, b5, b6⟩ := bm
        have hb3 : (hidT s.heap H).get? bm = some ob := seen b3 (fun vs n z => by rw [b6] at z; cases z) (fun z => by rw [b6] at z; cases z)
        refine ⟨bm, ob, b1, b2, fun z => ?_, fun z => ?_, hb3, b4, b5, b6⟩
        · obtain ⟨o, es, ep, e, d, _⟩ := g1
          rw [z, e] at b3
          cases b3
          rw [d] at b6
          cases b6
        · rw [z, T.emp p hp] at b3
          cases b3
          cases b6
      · obtain ⟨o, es, ep, e, d, _⟩ := g1
        rw [z, T.emp p hp] at e
        cases e
        cases d
    obtain ⟨mc, l1, l2⟩ := lim
    have e0 : Env0 P w K mg (hidT s.heap H) callerA [] s H :=
      { frames := rfl, mod := ⟨kb, nsOf g1, ⟨mb, nsOf g2, g3⟩, ⟨mc, nsOf l1, l2⟩⟩, bs := fun _ _ e => of_hidT e, bsz := Nat.le_of_eq (hidT_size _ _), funs := trivial,
        frf := fun b hb => absurd (show b ∈ ([] : List Addr) from hb) List.not_mem_nil, hok := hok, bare := .of_eq gs }
    refine codeAny_mono ((F _ kb (nsOf g1) TB).go (us := [.ref a]) (vs := [.ref a]) rfl hr e0 (hb s (.ref a)) (.cons rfl .nil) (hsp H sq tabs)) fun r s' h => ?_
    match r, h with
    | .error e, h => exact h.elim
    | .ok .next, h => exact h.elim
    | .ok .brk, h => exact h.elim
    | .ok .cont, h => exact h.elim
    | .ok (.ret u), ⟨v, H', os, bare, un, hok', rel, q⟩ =>
      have q' : v = .bl true := q
      subst q'
      have ru : u = Value.bool true := rel
      subst ru
      have grown : ∀ p ∈ cs, ∃ more : Array Value, s'.heap.get? p.2 = some { cls := .none, data := .fields more } := fun p hp => by
        obtain ⟨more, z⟩ := un.tbls p.2 #[] (tabs p hp)
        exact ⟨_, hok' p.2 _ z⟩
      have kept : ∀ b o, s.heap.get? b = some o → (∀ p ∈ cs, b ≠ p.2) → s'.heap.get? b = some o := fun b o e nt => by
        rcases only b with z | ⟨_, _, ob, xs, z⟩ | ⟨p, hp, z, _⟩
        · exact un.keep b o e z (fun m => absurd (show b ∈ ([] : List Addr) from m) List.not_mem_nil) List.not_mem_nil
        · have o1 := (hok b _ z).1
          have o2 := (hok' b _ (un.frzs b ob _ z)).1
          rw [e] at o1
          cases o1
          exact o2
        · exact absurd z (nt p hp)
      refine ⟨rfl, ⟨fun b o e => ?_, fun b o e => ?_⟩, os, bare⟩
      · by_cases hb : ∃ p ∈ cs, b = p.2
        · obtain ⟨p, hp, rfl⟩ := hb
          obtain ⟨more, hm⟩ := grown p hp
          have e1 := T.emp p hp
          rw [e1] at e
          cases e
          exact .inr (.inl ⟨((T.hd p hp).tab e1).isCodeTable, rfl, #[], more, rfl, by rw [Array.empty_append]; exact hm⟩)
        · exact .inl (kept b o e fun p hp z => hb ⟨p, hp, z⟩)
      · by_cases hb : ∃ p ∈ cs, b = p.2
        · obtain ⟨p, hp, rfl⟩ := hb
          obtain ⟨more, hm⟩ := grown p hp
          exact ⟨_, hm⟩
        · exact ⟨o, kept b o e fun p hp z => hb ⟨p, hp, z⟩⟩
  open Classical in
  let tabH : Hp := fun b => if ∃ p ∈ cs, b = p.2 then some (.tbl #[]) else none
  have tab1 : ∀ p ∈ cs, tabH p.2 = some (.tbl #[]) := fun p hp => if_pos ⟨p, hp, rfl⟩
  have tab0 : ∀ b, tabH b = none ∨ ∃ p ∈ cs, b = p.2 ∧ tabH b = some (.tbl #[]) := fun b => by
    by_cases e : ∃ p ∈ cs, b = p.2
    · obtain ⟨p, hp, z⟩ := e
      exact .inr ⟨p, hp, z, if_pos ⟨p, hp, z⟩⟩
    · exact .inl (if_neg e)
  have tabOk : ∀ b u, tabH b = some u → ObjOk P w tabH s.heap b u → True := fun _ _ _ _ => trivial
  cases hk : K.lookup a with
  | some o =>
    have e := KX a o hk
    rw [ha] at e
    cases e
    refine main tabH (fun b => (tab0 b).imp id .inr) tab1 (.inr ⟨_, vs.toArray, _, hk, rfl, rfl, rfl, ?_, by simpa using rv⟩) fun b u z => ?_
    · rw [List.size_toArray, ln]
      exact hl
    · rcases tab0 b with e | ⟨p, hp, e1, e2⟩
      · rw [e] at z
        cases z
      · rw [e2] at z
        cases z
        show s.heap.get? b = _
        rw [e1]
        exact T.emp p hp
  | none =>
    have na : tabH a = none := if_neg fun ⟨p, hp, z⟩ => a_tab p hp z
    refine main (upd tabH a (.frz { cls := .type "list", data := .seq vs.toArray } (.lst (ns.map V.int)))) (fun b => ?_) (fun p hp => by rw [upd_ne (a_tab p hp).symm]; exact tab1 p hp) (.inl (.inr ⟨_, upd_same⟩)) fun b u z => ?_
    · by_cases e : b = a
      · exact .inr (.inl ⟨e, hk, _, _, by rw [e]; exact upd_same⟩)
      · rw [upd_ne e]
        exact (tab0 b).imp id .inr
    · by_cases e : b = a
      · subst e
        rw [upd_same] at z
        cases z
        exact ⟨ha, by rw [List.length_map]; exact hl, vs, _, rv, ha⟩
      · rw [upd_ne e] at z
        rcases tab0 b with e0 | ⟨p, hp, e1, e2⟩
        · rw [e0] at z
          cases z
        · rw [e2] at z
          cases z
          show s.heap.get? b = _
          rw [e1]
          exact T.emp p hp
/-- the goal that k_head leaves, from such a promise of the law's def; the tables of the defs that are named -/
theorem walkGT {l : PySem.W.OpenLaw} {n k : Nat} {q : Program} {loose : List Str} {XP : (Str → Option Value) → Heap → Prop} {YP : World → Heap → Prop} {d : DefRec} {K : Params → PySem.W.Frag} {sp : PySem.W.Frag → List (Addr × Addr) → Sp} {x : Str} (names : List Str)
    (hn : l.most = some n) (hz : n ≤ sizeLine) (hd : d.params.defaults = []) (hr : Room k callerA) (hnm : ∀ y ∈ names, ((recsOf q).find? fun e => e.name == y).isSome = true) (hY : ∀ (w : World) (h : Heap), YP w h → (K w.params).In h)
    (F : ∀ (w : World) (mg : Str → Option Value) (fa : Addr) (h : Heap), (K w.params).In h → h.Ns mainGlobals mg → mg d.name = some (.ref fa) →
      ∃ (fd : FuncData) (cs : List (Addr × Addr)), (∀ p ∈ cs, (K w.params).lookup p.2 = none ∧ ∃ y ∈ names, PySem.W.tabIn (K w.params) y = some p) ∧ (∀ (s : Shared) (u : Value), BindsTo s fd ⟨[u], []⟩ [(x, u)]) ∧
        (∀ (H : Hp) (a : Addr) (ns : List Int), ns.length ≤ n → SqL (K w.params) H a (ns.map V.int) → (∀ p ∈ cs, H p.2 = some (.tbl #[])) → sp (K w.params) cs [.ref a] H (fun v _ => v = .bl true) fun _ _ _ => False) ∧
        ∀ base : Heap, (K w.params).In base → base.Ns mainGlobals mg → (∀ p ∈ cs, TabB base mg p.1 p.2) → FnG l.prog w (K w.params) mg base CX0 k fa fd [x] (sp (K w.params) cs)) :
    PySem.W.WalkO q loose XP YP l.row.toRowW d [] (fun f vs => PySem.call f vs) := by
  refine Att.attach_call hn hd fun w s0 s1 mg mb fa o pm cd doc a vs ns G Y ho hd' hcd hmg hobj hints hlen hg => ?_
  have KX := hY w _ Y
  obtain ⟨fd, cs, hc, hb, hsp, hF⟩ := F w mg fa _ KX G.T.g hmg
  have T : TabsOk (K w.params) s1.heap cs := by
    have key : ∀ p ∈ cs, PySem.W.CodeHd s1.heap p.1 p.2 ∧ s1.heap.get? p.2 = some { cls := .none, data := .fields #[] } := fun p hp => by
      obtain ⟨_, y, hy, ht⟩ := hc p hp
      obtain ⟨d', hd2⟩ := Option.isSome_iff_exists.mp (hnm y hy)
      exact PySem.W.tab_of G.T KX hd2 ht
    exact ⟨fun p hp => (key p hp).2, fun p hp => (hc p hp).1, fun p hp => (key p hp).1⟩
  exact callGT KX G.T.g G.T.b G.T.builtins G.T.nolimit hg T G.T.bmain hobj hints (Nat.le_trans hlen hz) hr hF hb fun H hS ht => hsp H a ns hlen hS ht
end Loc

set_option Elab.async false
set_option linter.all false
set_option maxRecDepth 100000
/-! ### what the end of a law finds of its classes and of its defs' tables -/
namespace Loc
open PySem PySem.Spec PyProof.Rows L2
variable {K : PySem.W.Frag}
theorem tab_mk {x : Str} {f c Pt : Addr} {oc oc2 : Value} {od od2 : Option Addr} {fd : FuncData} {sl sl2 : Array (Option Value)} {vs : Array Value} (a : PySem.W.nsIn K mainGlobals x = some (some (.ref f))) (l : K.lookup f = some ⟨oc, od, .func fd, sl⟩) (hc : fd.code = .ref c)
    (o : K.lookup c = some ⟨oc2, od2, .fields vs, sl2⟩) (v : vs[11]? = some (.ref Pt)) : PySem.W.tabIn K x = some (c, Pt) := by
  unfold PySem.W.tabIn
  rw [a]
  simp only
  rw [l]
  simp only
  rw [hc]
  simp only
  rw [o]
  simp only
  rw [v]
theorem kit_self {A : Addr} : PySem.W.kitOne K (.ref A) (.ref A) = some true := by
  unfold PySem.W.kitOne
  rw [if_pos (by simp)]
theorem kit_no {A B : Addr} {b : Bool} (n : (A == B) = false) (hd : PySem.W.hasDictIn K B = true) (ty : PySem.W.typeIn K (.ref B) = some (.type "type")) (s : PySem.W.subIn K (.ref A) (.ref B) = some b) : PySem.W.kitOne K (.ref A) (.ref B) = some b := by
  obtain ⟨cd, e, _⟩ := PySem.W.any_some hd
  have e1 : (Value.ref A == Value.ref B) = false := by
    have ne : A ≠ B := fun z => by rw [z, beq_self_eq_true] at n; exact Bool.noConfusion n
    exact beq_eq_false_iff_ne.mpr fun z => ne (Value.ref.inj z)
  unfold PySem.W.kitOne PySem.W.kitCls
  rw [e1, if_neg Bool.false_ne_true]
  simp only
  rw [e, ty]
  rw [if_pos (by rfl)]
  exact s
theorem kit_any2 {t a b : Value} (h1 : PySem.W.kitOne K t a = some false) (h2 : PySem.W.kitOne K t b = some false) : PySem.W.kitAny K t [a, b] = some false := by
  simp [PySem.W.kitAny, h1, h2]
end Loc

set_option Elab.async false
set_option linter.all false
set_option maxRecDepth 100000
/-! ### classes and a builtin class -/
namespace Loc
open PySem PySem.Spec PyProof.Rows L2
variable {K : PySem.W.Frag}
theorem kit_typ {A : Addr} {t : String} {b : Bool} (m : PySem.W.kitMeta t = true) (s : PySem.W.subIn K (.ref A) (.type t) = some b) : PySem.W.kitOne K (.ref A) (.type t) = some b := by
  have e1 : (Value.ref A == Value.type t) = false := beq_eq_false_iff_ne.mpr fun z => nomatch z
  unfold PySem.W.kitOne PySem.W.kitCls
  rw [e1, if_neg Bool.false_ne_true]
  simp only
  rw [if_pos m]
  exact s
theorem kit_more {t a : Value} {r : List Value} (h1 : PySem.W.kitOne K t a = some false) (h2 : PySem.W.kitAny K t r = some false) : PySem.W.kitAny K t (a :: r) = some false := by
  simp [PySem.W.kitAny, h1, h2]
theorem kit_hit {t a : Value} {r : List Value} (h1 : PySem.W.kitOne K t a = some true) : PySem.W.kitAny K t (a :: r) = some true := by
  simp [PySem.W.kitAny, h1]
theorem kit_end {t : Value} : PySem.W.kitAny K t [] = some false := by
  simp [PySem.W.kitAny]
end Loc
namespace Loc
open PySem PySem.Spec PyProof.Rows L2
theorem kit_skip {K : PySem.W.Frag} {t a : Value} {r : List Value} {b : Bool} (h1 : PySem.W.kitOne K t a = some false) (h2 : PySem.W.kitAny K t r = some b) : PySem.W.kitAny K t (a :: r) = some b := by
  simp [PySem.W.kitAny, h1, h2]
end Loc

set_option Elab.async false
set_option linter.all false
set_option maxRecDepth 100000
set_option maxHeartbeats 2000000
/-! ### a law's end over one run of the program's top: what is looked for behind it, by names -/
namespace Loc
namespace Hd
open PySem PySem.Spec PyProof.Rows L2 LamX
/-- a def that is looked for: where it stands, its name, its full name, its statement -/
structure DefY where
  ad : PySem.W.Frag → Addr
  nm : Str
  ql : Str
  st : Stmt
abbrev FnY : Type := Option (Str × Str × Arguments × FuncBody × Scope × Addr × List (Str × Addr) × Value × Addr)
def fnY (K : PySem.W.Frag) (a : Addr) : FnY := match K.lookup a with
  | some ⟨_, _, .func ⟨n1, n2, n3, n4, n5, n6, n7, n8, _, _, _, _, _, _, n15⟩, _⟩ => some (n1, n2, n3, n4, n5, n6, n7, n8, n15)
  | _ => none
def DefY.val (d : DefY) : FnY := some (d.nm, d.ql, defArgs d.st, .stmts (defBody d.st), defScope d.st, mainGlobals, [], .none, builtinsNs)
def codeY (K : PySem.W.Frag) (a : Addr) (q : Str) : Bool := PySem.W.keepIn K (.ref a) && match K.lookup a with
  | some ⟨_, _, .func fd, _⟩ => PySem.W.codeIn K fd.code q
  | _ => false
theorem funY {K : PySem.W.Frag} {d : DefY} {a : Addr} (e : fnY K a = d.val) (c : codeY K a d.ql = true) : ∃ fd, Fun K d.nm d.ql d.st a fd := by
  obtain ⟨k1, k2⟩ := He.ba c
  unfold fnY at e
  cases q : K.lookup a with
  | none =>
    rw [q] at k2
    cases k2
  | some o =>
    obtain ⟨oc, od, dt, osl⟩ := o
    rw [q] at k2 e
    cases dt with
    | func fd =>
      obtain ⟨n1, n2, n3, n4, n5, n6, n7, n8, n9, n10, n11, n12, n13, n14, n15⟩ := fd
      have e2 : (some (n1, n2, n3, n4, n5, n6, n7, n8, n15) : FnY) = some (d.nm, d.ql, defArgs d.st, .stmts (defBody d.st), defScope d.st, mainGlobals, [], .none, builtinsNs) := e
      simp only [Option.some.injEq, Prod.mk.injEq] at e2
      obtain ⟨h1, h2, h3, h4, h5, h6, h7, h8, h9⟩ := e2
      subst h1 h2 h3 h4 h5 h6 h7 h8 h9
      exact ⟨_, ⟨oc, od, n9, n10, n11, n12, n13, n14, osl, rfl, q, k2⟩, k1⟩
    | _ => cases k2
/-! the observation -/
abbrev AlY : Type := List FnY × Bool
def tabY (K : PySem.W.Frag) (x : Str) : Addr × Addr := He.cT K (x, none)
/-! which objects: what the module's names name, and what belongs to it -/
def rfs (v : Value) : List Addr := match v with
  | .ref a => [a]
  | _ => []
def nmsY (g : Addr → Option Obj) (a : Addr) : List Addr := match g a with
  | some ⟨_, _, .dict es _, _⟩ => es.toList.flatMap fun e => rfs e.val
  | _ => []
def cdsY (g : Addr → Option Obj) (a : Addr) : List Addr := match g a with
  | some ⟨_, _, .func fd, _⟩ => a :: rfs fd.code
  | _ => [a]
def memY (g : Addr → Option Obj) (a : Addr) : List Addr := match g a with
  | some ⟨_, _, .func fd, _⟩ => a :: rfs fd.code
  | some ⟨_, _, .fields vs, _⟩ => a :: (vs.toList.flatMap rfs).flatMap (cdsY g)
  | _ => [a]
def undY (g : Addr → Option Obj) (a : Addr) : List Addr := match g a with
  | some ⟨_, _, .func fd, _⟩ => a :: rfs fd.code
  | some ⟨_, _, .cls cd, _⟩ => a :: cd.ns :: (nmsY g cd.ns).flatMap (memY g)
  | _ => [a]
def asY (g : Addr → Option Obj) : List Addr := mainGlobals :: cStatics :: (nmsY g mainGlobals).flatMap (undY g)
def partY (g : Addr → Option Obj) (_n : Nat) : PySem.W.Frag := He.frT g (asY g)
def lookY (D : List DefY) (tf : List Str) (ex : PySem.W.Frag → Bool) (g : Addr → Option Obj) (K : PySem.W.Frag) : AlY :=
  (D.map fun d => fnY K (d.ad K), (D.all fun d => codeY K (d.ad K) d.ql) && (ex K && tf.all fun x => PySem.W.codeHdIn K (tabY K x).1 (tabY K x).2 && match g (tabY K x).2 with
    | some o => He.emptyTab o
    | none => false))
def obsY (n : Nat) (D : List DefY) (tf : List Str) (ex : PySem.W.Frag → Bool) (g : Addr → Option Obj) : AlY := lookY D tf ex g (partY g n)
def valY (D : List DefY) : AlY := (D.map DefY.val, true)
structure SaysY (D : List DefY) (tf : List Str) (ex : PySem.W.Frag → Bool) (h : Heap) (K : PySem.W.Frag) : Prop where
  df : ∀ d ∈ D, ∃ fd, Fun K d.nm d.ql d.st (d.ad K) fd
  ex : ex K = true
  hd : ∀ x ∈ tf, PySem.W.codeHdIn K (tabY K x).1 (tabY K x).2 = true
  out : ∀ x ∈ tf, K.lookup (tabY K x).2 = none
  emp : ∀ x ∈ tf, h.get? (tabY K x).2 = some { cls := .none, data := .fields #[] }
theorem SaysY.at {D : List DefY} {tf : List Str} {ex : PySem.W.Frag → Bool} {h : Heap} {K : PySem.W.Frag} (c : SaysY D tf ex h K) (i : Nat) {d : DefY} (e : D[i]? = some d) : ∃ fd, Fun K d.nm d.ql d.st (d.ad K) fd := c.df d (List.mem_of_getElem? e)
theorem saysY_of {n : Nat} {D : List DefY} {tf : List Str} {ex : PySem.W.Frag → Bool} {h : Heap} (e : obsY n D tf ex h.get? = valY D) : SaysY D tf ex h (partY h.get? n) := by
  have e1 : (D.map fun d => fnY (partY h.get? n) (d.ad (partY h.get? n))) = D.map DefY.val := congrArg (fun z : AlY => z.1) e
  have e2 := show (lookY D tf ex h.get? (partY h.get? n)).2 = true from congrArg (fun z : AlY => z.2) e
  unfold lookY at e2
  obtain ⟨h1, h2⟩ := He.ba e2
  obtain ⟨h3, h4⟩ := He.ba h2
  have key : ∀ x ∈ tf, PySem.W.codeHdIn (partY h.get? n) (tabY (partY h.get? n) x).1 (tabY (partY h.get? n) x).2 = true ∧ ∃ o, h.get? (tabY (partY h.get? n) x).2 = some o ∧ He.emptyTab o = true := fun x hx => by
    obtain ⟨g1, g2⟩ := He.ba (List.all_eq_true.mp h4 x hx)
    refine ⟨g1, ?_⟩
    cases q : h.get? (tabY (partY h.get? n) x).2 with
    | none =>
      rw [q] at g2
      cases g2
    | some o =>
      rw [q] at g2
      exact ⟨o, rfl, g2⟩
  refine ⟨fun d hd => ?_, h3, fun x hx => (key x hx).1, fun x hx => ?_, fun x hx => ?_⟩
  · have c := List.all_eq_true.mp h1 d hd
    refine funY ?_ c
    obtain ⟨i, hi, q⟩ := List.mem_iff_getElem.mp hd
    have := congrArg (fun z : List FnY => z[i]?) e1
    simp only [List.getElem?_map, List.getElem?_eq_getElem hi, Option.map_some, Option.some.injEq, q] at this
    exact this
  · obtain ⟨_, o, q, z⟩ := key x hx
    exact He.frT_none q z
  · obtain ⟨_, o, q, z⟩ := key x hx
    rw [q, He.emptyTab_eq z]
def hookY (n : Nat) (D : List DefY) (tf : List Str) (ex : PySem.W.Frag → Bool) : PySem.W.Hook where
  α := AlY
  obs := fun s => obsY n D tf ex s.heap.get?
  val := fun _ => valY D
  says := fun _ h => ∃ K : PySem.W.Frag, K.In h ∧ SaysY D tf ex h K
  of := fun _ _ e => ⟨_, He.frT_in, saysY_of e⟩
  keeps := fun _ _ _ ⟨K, hK, c⟩ k => ⟨K, PySem.W.Frag.In.keeps hK k, ⟨c.df, c.ex, c.hd, c.out, fun x hx => k _ _ (c.emp x hx)⟩⟩
theorem obsY_eq {n : Nat} {D : List DefY} {tf : List Str} {ex : PySem.W.Frag → Bool} {g : Addr → Option Obj} {s : Shared} (h : ∀ a, g a = s.heap.get? a) : obsY n D tf ex g = (hookY n D tf ex).obs s := by
  have e : g = s.heap.get? := funext h
  rw [e] <;> rfl
/-- the goal behind such a head -/
theorem walkY {l : PySem.W.OpenLaw} {n k N : Nat} {q : Program} {loose : List Str} {XP : (Str → Option Value) → Heap → Prop} {d : DefRec} {D : List DefY} {tf : List Str} {ex : PySem.W.Frag → Bool} {sp : PySem.W.Frag → List (Addr × Addr) → Sp} {x : Str}
    (hn : l.most = some n) (hz : n ≤ sizeLine) (hd : d.params.defaults = []) (hr : Room k callerA)
    (F : ∀ (w : World) (mg : Str → Option Value) (fa : Addr) (h : Heap) (K : PySem.W.Frag), K.In h → h.Ns mainGlobals mg → mg d.name = some (.ref fa) → SaysY D tf ex h K →
      ∃ fd : FuncData, (∀ (s : Shared) (u : Value), BindsTo s fd ⟨[u], []⟩ [(x, u)]) ∧
        (∀ (H : Hp) (a : Addr) (ns : List Int), ns.length ≤ n → SqL K H a (ns.map V.int) → (∀ p ∈ tf.map (tabY K), H p.2 = some (.tbl #[])) → sp K (tf.map (tabY K)) [.ref a] H (fun v _ => v = .bl true) fun _ _ _ => False) ∧
        ∀ base : Heap, K.In base → base.Ns mainGlobals mg → (∀ p ∈ tf.map (tabY K), TabB base mg p.1 p.2) → FnG l.prog w K mg base CX0 k fa fd [x] (sp K (tf.map (tabY K)))) :
    PySem.W.WalkO q loose XP (hookY N D tf ex).says l.row.toRowW d [] (fun f vs => PySem.call f vs) := by
  refine Att.attach_call hn hd fun w s0 s1 mg mb fa o pm cd doc a vs ns G Y ho hd' hcd hmg hobj hints hlen hg => ?_
  obtain ⟨K, KX, c⟩ := Y
  obtain ⟨fd, hb, hsp, hF⟩ := F w mg fa _ K KX G.T.g hmg c
  have T : TabsOk K s1.heap (tf.map (tabY K)) := by
    refine ⟨fun p hp => ?_, fun p hp => ?_, fun p hp => ?_⟩
    · obtain ⟨y, hy, rfl⟩ := List.mem_map.mp hp
      exact c.emp y hy
    · obtain ⟨y, hy, rfl⟩ := List.mem_map.mp hp
      exact c.out y hy
    · obtain ⟨y, hy, rfl⟩ := List.mem_map.mp hp
      exact PySem.W.codeHd_of_K KX (c.hd y hy)
  exact callGT KX G.T.g G.T.b G.T.builtins G.T.nolimit hg T G.T.bmain hobj hints (Nat.le_trans hlen hz) hr hF hb fun H hS ht => hsp H a ns hlen hS ht
/-! what is asked of classes, as Bools -/
abbrev At (x : Str) : PySem.W.Frag → Addr := fun K => He.ga K x
abbrev In (x m : Str) : PySem.W.Frag → Addr := fun K => He.ma K (He.ga K x) m
def eqV (a b : Option Value) : Bool := decide (a = b)
theorem eqV_ok {a b : Option Value} (h : eqV a b = true) : a = b := of_decide_eq_true h
def eqB (a b : Option Bool) : Bool := decide (a = b)
theorem eqB_ok {a b : Option Bool} (h : eqB a b = true) : a = b := of_decide_eq_true h
/-- an error class, as the machine keeps it -/
def shapeE (K : PySem.W.Frag) (C : Addr) : Bool := match K.lookup C with
  | some ⟨.type t, _, .cls cd, sl⟩ => decide (t = "type") && (cd.hasDict && (!cd.hasDel && match cd.mro with
    | .ref c :: r => decide (c = C) && (PySem.HandSPX.refsVE r && match sl.toList with
      | [_, _, _, _, some (.builtin z), _] => decide (z = "ValueError.__new__")
      | _ => false)
    | _ => false))
  | _ => false
def oexB (K : PySem.W.Frag) (C : Addr) : Bool := shapeE K C && (He.eqO (PySem.W.findIn K (.ref C) "__setattr__") (some (some (.builtin "object.__setattr__"))) && (eqB (PySem.W.subIn K (.ref C) (.type "BaseException")) (some true) && (eqV (PySem.W.typeIn K (.ref C)) (some (.type "type")) && PySem.W.keepIn K (.ref C))))
theorem oex_of {K : PySem.W.Frag} {C : Addr} (h : oexB K C = true) : OexC K C := by
  obtain ⟨h1, h2⟩ := He.ba h
  obtain ⟨h3, h4⟩ := He.ba h2
  obtain ⟨h5, h6⟩ := He.ba h4
  obtain ⟨h7, h8⟩ := He.ba h6
  refine ⟨?_, He.eqO_ok h3, eqB_ok h5, eqV_ok h7, h8⟩
  unfold shapeE at h1
  cases q : K.lookup C with
  | none =>
    rw [q] at h1
    cases h1
  | some o =>
    obtain ⟨oc, od, dt, ⟨sl⟩⟩ := o
    rw [q] at h1
    cases oc with
    | type t =>
      cases dt with
      | cls cd =>
        obtain ⟨nm, bs, mro, ns, qn, hd, sn, sub, ab, col, del⟩ := cd
        obtain ⟨e1, r1⟩ := He.ba h1
        obtain ⟨e2, r2⟩ := He.ba r1
        obtain ⟨e3, r3⟩ := He.ba r2
        have f1 : t = "type" := of_decide_eq_true e1
        have f2 : hd = true := e2
        have f3 : del = false := by
          cases del with
          | false => rfl
          | true => cases e3
        clear e1 e2 e3 h1 r1 r2
        subst f1 f2 f3
        cases mro with
        | nil => cases r3
        | cons c r =>
          cases c with
          | ref c =>
            obtain ⟨e4, r4⟩ := He.ba r3
            obtain ⟨e5, r5⟩ := He.ba r4
            have e4 := of_decide_eq_true e4
            subst e4
            dsimp only at r5
            split at r5
            · rename_i l0 k0 k1 k2 k3 zz k5
              have e6 := of_decide_eq_true r5
              subst e6
              exact ⟨nm, qn, ns, bs, r, sn, sub, ab, col, od, k0, k1, k2, k3, k5, rfl, e5⟩
            · cases r5
          | _ => cases r3
      | _ => cases h1
    | _ => cases h1
def errB (K : PySem.W.Frag) (C : Addr) : Bool := He.eqO (PySem.W.findIn K (.ref C) "__getattribute__") (some (some (.builtin "BaseException.__getattribute__"))) && (He.eqO (PySem.W.findIn K (.ref C) "__getattr__") (some none) && (eqB (PySem.W.subIn K (.ref C) (.type "BaseException")) (some true) && (PySem.W.hasDictIn K C &&
  (He.eqO (PySem.W.findIn K (.ref C) "__class__") (some (some (.builtin "object.__class__"))) && (He.eqO (PySem.W.specialIn K (.builtin "object.__class__") "__get__") (some (some (.builtin "getset_descriptor.__get__"))) && (eqB (PySem.W.takesIn K (.builtin "object.__class__")) (some true) && eqB (PySem.W.mroIn K C (.type "object")) (some true)))))))
theorem err_of {K : PySem.W.Frag} {C : Addr} (h : errB K C = true) : ErrC K C := by
  obtain ⟨h1, r1⟩ := He.ba h
  obtain ⟨h2, r2⟩ := He.ba r1
  obtain ⟨h3, r3⟩ := He.ba r2
  obtain ⟨h4, r4⟩ := He.ba r3
  obtain ⟨h5, r5⟩ := He.ba r4
  obtain ⟨h6, r6⟩ := He.ba r5
  obtain ⟨h7, h8⟩ := He.ba r6
  exact ⟨He.eqO_ok h1, He.eqO_ok h2, eqB_ok h3, h4, He.eqO_ok h5, He.eqO_ok h6, eqB_ok h7, eqB_ok h8⟩
def noB (K : PySem.W.Frag) (C : Addr) (f : Str) : Bool := He.eqO (PySem.W.findIn K (.ref C) f) (some none)
def iniB (K : PySem.W.Frag) (x : Str) : Bool := He.eqO (PySem.W.findIn K (.ref (At x K)) "__init__") (some (some (.ref (In x "__init__" K)))) && eqV (PySem.W.typeIn K (.ref (In x "__init__" K))) (some (.type "function"))
def e1B (K : PySem.W.Frag) (x f : Str) : Bool := oexB K (At x K) && (errB K (At x K) && (noB K (At x K) f && iniB K x))
def e2B (K : PySem.W.Frag) (x f g : Str) : Bool := e1B K x f && noB K (At x K) g
def e0B (K : PySem.W.Frag) (x : Str) : Bool := (He.Fa.exc x).ok K && errB K (At x K)
section
variable {K : PySem.W.Frag} {h : Heap} {mg : Str → Option Value} {x q f g : Str} {st : Stmt} {fd : FuncData}
theorem cls1_of (gx : mg x = some (.ref (At x K))) (e : e1B K x f = true) (F : Fun K "__init__" q st (In x "__init__" K) fd) (b : Binds K fd ["self", f] []) : Cls1 K mg x q f st (At x K) (In x "__init__" K) fd := by
  obtain ⟨h1, r1⟩ := He.ba e
  obtain ⟨h2, r2⟩ := He.ba r1
  obtain ⟨h3, r3⟩ := He.ba r2
  obtain ⟨h4, h5⟩ := He.ba r3
  exact ⟨gx, oex_of h1, err_of h2, He.eqO_ok h3, He.eqO_ok h4, eqV_ok h5, F, b⟩
theorem cls2_of (gx : mg x = some (.ref (At x K))) (e : e2B K x f g = true) (F : Fun K "__init__" q st (In x "__init__" K) fd) (b : Binds K fd ["self", f, g] []) : Cls2 K mg x q f g st (At x K) (In x "__init__" K) fd := by
  obtain ⟨e1, h6⟩ := He.ba e
  obtain ⟨h1, r1⟩ := He.ba e1
  obtain ⟨h2, r2⟩ := He.ba r1
  obtain ⟨h3, r3⟩ := He.ba r2
  obtain ⟨h4, h5⟩ := He.ba r3
  exact ⟨gx, oex_of h1, err_of h2, He.eqO_ok h3, He.eqO_ok h6, He.eqO_ok h4, eqV_ok h5, F, b⟩
theorem clsN_of (gx : mg x = some (.ref (At x K))) (e : e0B K x = true) : ClsN K mg x (At x K) := by
  obtain ⟨h1, h2⟩ := He.ba e
  obtain ⟨k1, k2, k3, k4⟩ := He.exc_ok h1
  exact ⟨gx, k1, k2, k3, k4, err_of h2⟩
end
/-- pairs of classes, each kind of its own only -/
def kitB (K : PySem.W.Frag) (l : List Str) : Bool := (List.range l.length).all fun i => (List.range l.length).all fun j => eqB (PySem.W.kitOne K (.ref ((l.map (He.ga K)).getD i 0)) (.ref ((l.map (He.ga K)).getD j 0))) (some (decide (i = j)))
theorem kit_of {K : PySem.W.Frag} {l : List Str} (h : kitB K l = true) : ∀ i j, i < l.length → j < l.length → PySem.W.kitOne K (.ref ((l.map (He.ga K)).getD i 0)) (.ref ((l.map (He.ga K)).getD j 0)) = some (decide (i = j)) := fun i j hi hj =>
  eqB_ok (List.all_eq_true.mp (List.all_eq_true.mp h i (List.mem_range.mpr hi)) j (List.mem_range.mpr hj))
/-- all below one class -/
def exmB (K : PySem.W.Frag) (y : Str) (l : List Str) : Bool := (List.range l.length).all fun i => eqB (PySem.W.exmOne K (.ref ((l.map (He.ga K)).getD i 0)) (.ref (He.ga K y))) (some true)
theorem exm_of {K : PySem.W.Frag} {y : Str} {l : List Str} (h : exmB K y l = true) : ∀ i, i < l.length → PySem.W.exmOne K (.ref ((l.map (He.ga K)).getD i 0)) (.ref (He.ga K y)) = some true := fun i hi =>
  eqB_ok (List.all_eq_true.mp h i (List.mem_range.mpr hi))
/-! properties, own special methods, a class's constants -/
def proA (K : PySem.W.Frag) (p : Addr) : Addr := match PySem.W.recIn K p "property" with
  | some (.ref g :: _) => g
  | _ => 0
abbrev Pro (x f : Str) : PySem.W.Frag → Addr := fun K => proA K (In x f K)
def proB (K : PySem.W.Frag) (x f : Str) : Bool := He.eqO (PySem.W.findIn K (.ref (At x K)) f) (some (some (.ref (In x f K)))) && (He.eqO (PySem.W.specialIn K (.ref (In x f K)) "__get__") (some (some (.builtin "property.__get__"))) && (eqB (PySem.W.takesIn K (.ref (In x f K))) (some true) && match PySem.W.recIn K (In x f K) "property" with
  | some (.ref _ :: _) => true
  | _ => false))
theorem pro_of {K : PySem.W.Frag} {x f : Str} (h : proB K x f = true) : PropOf K (At x K) f (In x f K) (Pro x f K) := by
  obtain ⟨h1, r1⟩ := He.ba h
  obtain ⟨h2, r2⟩ := He.ba r1
  obtain ⟨h3, h4⟩ := He.ba r2
  refine ⟨He.eqO_ok h1, He.eqO_ok h2, eqB_ok h3, ?_⟩
  show ∃ rest, PySem.W.recIn K (In x f K) "property" = some (.ref (proA K (In x f K)) :: rest)
  unfold proA
  split at h4
  · rename_i g r q
    exact ⟨r, by rw [q]⟩
  · cases h4
def ownB (K : PySem.W.Frag) (x m : Str) : Bool := He.eqO (PySem.W.findIn K (.ref (At x K)) m) (some (some (.ref (In x m K)))) && eqV (PySem.W.typeIn K (.ref (In x m K))) (some (.type "function"))
theorem own_of {K : PySem.W.Frag} {x m : Str} (h : ownB K x m = true) : PySem.W.findIn K (.ref (At x K)) m = some (some (.ref (In x m K))) ∧ PySem.W.typeIn K (.ref (In x m K)) = some (.type "function") := ⟨He.eqO_ok (He.ba h).1, eqV_ok (He.ba h).2⟩
def tyA (K : PySem.W.Frag) (C : Addr) : Value := (PySem.W.typeIn K (.ref C)).getD .none
def rdB (K : PySem.W.Frag) (x : Str) : Bool := PySem.W.readsIn K (At x K) (tyA K (At x K)) && He.eqO (PySem.W.specialIn K (.ref (At x K)) "__getattribute__") (some (some (.builtin "type.__getattribute__")))
theorem rd_of {K : PySem.W.Frag} {x : Str} (h : rdB K x = true) : ClX.CRead K (At x K) (tyA K (At x K)) := ⟨(He.ba h).1, He.eqO_ok (He.ba h).2⟩
def conB (K : PySem.W.Frag) (x f : Str) (i : Int) : Bool := match PySem.W.findCls K (.ref (At x K)) (tyA K (At x K)) f with
  | some (.val (.int j _)) => decide (j = i)
  | _ => false
theorem con_of {K : PySem.W.Frag} {x f : Str} {i : Int} (h : conB K x f i = true) : ∃ t, ClX.CVal K (At x K) (tyA K (At x K)) f (.int i) (.int i t) := by
  unfold conB at h
  split at h
  · rename_i j t q
    have e := of_decide_eq_true h
    subst e
    exact ⟨t, q, t, rfl⟩
  · cases h
end Hd
end Loc
namespace Loc
namespace Hd
open PySem PySem.Spec PyProof.Rows L2 LamX
theorem code_of {K : PySem.W.Frag} {x q : Str} {st : Stmt} {fd : FuncData} (F : Fun K x q st (At x K) fd) : fd.code = .ref (tabY K x).1 := by
  obtain ⟨oc, od, kV, doc, pm, an, cdv, ct, osl, rfl, lk, hcd⟩ := F.ex
  obtain ⟨c, rfl⟩ := He.codeIn_ref hcd
  have := He.codeOf_eq (K := K) (p := (x, none)) lk rfl
  show Value.ref c = .ref (He.codeOf K (x, none))
  rw [this]
theorem all_at {l : List Bool} (h : l.all id = true) (i : Nat) {b : Bool} (e : l[i]? = some b) : b = true := List.all_eq_true.mp h b (List.mem_of_getElem? e)
end Hd
end Loc

set_option Elab.async false
set_option linter.all false
set_option maxRecDepth 100000
namespace C64
open PySem PySem.Spec PyProof.Rows L2 Loc RZ
/-! ### the end -/
open Loc.Hd
def dfs0 : List DefY := [⟨At "_wall", "_wall", "_wall", s__wall⟩, ⟨At "is_whole", "is_whole", "is_whole", sWhole⟩, ⟨At "is_element", "is_element", "is_element", sElement⟩, ⟨At "is_count", "is_count", "is_count", sCount⟩, ⟨At "is_run", "is_run", "is_run", sIsRun⟩, ⟨At "is_block", "is_block", "is_block", sIsBlk⟩, ⟨At "base_of", "base_of", "base_of", sBase⟩, ⟨At "run_of", "run_of", "run_of", sRunOf⟩, ⟨At "_fit_together", "_fit_together", "_fit_together", sFit⟩, ⟨At "level_of", "level_of", "level_of", sLevel⟩, ⟨At "size_of", "size_of", "size_of", sSize⟩, ⟨At "text_of", "text_of", "text_of", sText⟩, ⟨At "node_with", "node_with", "node_with", s_node_with⟩, ⟨At "_closed", "_closed", "_closed", s__closed⟩, ⟨At "_read_element", "_read_element", "_read_element", s__read_element⟩, ⟨At "_read_count", "_read_count", "_read_count", s__read_count⟩, ⟨At "_digits_end", "_digits_end", "_digits_end", s__digits_end⟩, ⟨At "whole_with", "whole_with", "whole_with", s_whole_with⟩, ⟨At "first_marks", "first_marks", "first_marks", sFirst⟩, ⟨At "_first_mark", "_first_mark", "_first_mark", sFM⟩, ⟨At "_first_unlike", "_first_unlike", "_first_unlike", sFU⟩, ⟨At "_code_at", "_code_at", "_code_at", sCodeAt⟩, ⟨At "next_marks", "next_marks", "next_marks", sNext⟩, ⟨At "_next_mark", "_next_mark", "_next_mark", sNm⟩, ⟨At "marks", "marks", "marks", sMarks⟩, ⟨At "peaks", "peaks", "peaks", sPeaks⟩, ⟨At "cuts", "cuts", "cuts", sCuts⟩, ⟨At "blocks", "blocks", "blocks", sBlocks⟩, ⟨At "made_runs", "made_runs", "made_runs", sMade⟩, ⟨At "is_runs", "is_runs", "is_runs", sIsRuns⟩]
def dfs1 : List DefY := [⟨At "_is_pair", "_is_pair", "_is_pair", sIsPair⟩, ⟨At "rows_of", "rows_of", "rows_of", sRows⟩, ⟨At "tree_of", "tree_of", "tree_of", sTree⟩, ⟨At "melted", "melted", "melted", s_melted⟩, ⟨At "length_of", "length_of", "length_of", sLenOf⟩, ⟨At "run_count", "run_count", "run_count", sCnt⟩, ⟨At "runs_of", "runs_of", "runs_of", sRunsOf⟩, ⟨At "_pairs_of", "_pairs_of", "_pairs_of", sPairs⟩, ⟨At "spliced", "spliced", "spliced", s_spliced⟩, ⟨At "part", "part", "part", s_part⟩, ⟨At "joined", "joined", "joined", s_joined⟩, ⟨At "_check_range", "_check_range", "_check_range", s__check_range⟩, ⟨At "_pairs_between", "_pairs_between", "_pairs_between", s__pairs_between⟩, ⟨At "_tree_of_pieces", "_tree_of_pieces", "_tree_of_pieces", s__tree_of_pieces⟩, ⟨At "repeated", "repeated", "repeated", s_repeated⟩, ⟨At "_with_runs", "_with_runs", "_with_runs", s__with_runs⟩, ⟨At "_cut", "_cut", "_cut", s__cut⟩, ⟨At "show_runs", "show_runs", "show_runs", s_show_runs⟩, ⟨At "runs_with", "runs_with", "runs_with", s_runs_with⟩, ⟨At "_pair_with", "_pair_with", "_pair_with", s__pair_with⟩, ⟨At "is_name", "is_name", "is_name", s_is_name⟩, ⟨At "_check_name", "_check_name", "_check_name", s__check_name⟩, ⟨At "_check_runs", "_check_runs", "_check_runs", s__check_runs⟩, ⟨At "_trees_with", "_trees_with", "_trees_with", s__trees_with⟩, ⟨At "_law_pot", "_law_pot", "_law_pot", sPot⟩, ⟨At "_law_take", "_law_take", "_law_take", sTake⟩, ⟨At "_law_of", "_law_of", "_law_of", sOf⟩, ⟨At "_law_sequence", "_law_sequence", "_law_sequence", sSeq⟩, ⟨At "_law_runs", "_law_runs", "_law_runs", sLRuns⟩, ⟨At "_law_wide", "_law_wide", "_law_wide", sWide⟩]
def dfs2 : List DefY := [⟨At "_law_text", "_law_text", "_law_text", sLText⟩, ⟨At "_law_first", "_law_first", "_law_first", sLFirst⟩, ⟨At "_law_round", "_law_round", "_law_round", sRound⟩, ⟨At "_law_marks", "_law_marks", "_law_marks", sLMarks⟩, ⟨At "_law_pieces", "_law_pieces", "_law_pieces", sLPieces⟩, ⟨At "_law_joined", "_law_joined", "_law_joined", sJoined⟩, ⟨At "_law_rows", "_law_rows", "_law_rows", sLRows⟩, ⟨At "_law_tree", "_law_tree", "_law_tree", sLTree⟩, ⟨At "_law_name", "_law_name", "_law_name", s__law_name⟩, ⟨At "_law_caught", "_law_caught", "_law_caught", s__law_caught⟩, ⟨At "law", "law", "law", sLaw⟩, ⟨In "NoRange" "__init__", "__init__", "NoRange.__init__", sI_NoRange⟩, ⟨In "TooLong" "__init__", "__init__", "TooLong.__init__", sI_TooLong⟩, ⟨In "TooMany" "__init__", "__init__", "TooMany.__init__", sI_TooMany⟩, ⟨In "BadName" "__init__", "__init__", "BadName.__init__", sI_BadName⟩, ⟨In "NoName" "__init__", "__init__", "NoName.__init__", sI_NoName⟩, ⟨In "Store" "__init__", "__init__", "Store.__init__", sM_init⟩, ⟨In "Store" "put", "put", "Store.put", sM_put⟩, ⟨In "Store" "drop", "drop", "Store.drop", sM_drop⟩, ⟨In "Store" "tree", "tree", "Store.tree", sM_tree⟩, ⟨In "Store" "_check_kept", "_check_kept", "Store._check_kept", sM_check_kept⟩, ⟨In "Store" "_keep", "_keep", "Store._keep", sM_keep⟩, ⟨In "Store" "_change", "_change", "Store._change", sM_change⟩, ⟨Pro "Store" "names", "names", "Store.names", sM_names⟩, ⟨Pro "Store" "changes", "changes", "Store.changes", sM_changes⟩, ⟨In "Store" "__len__", "__len__", "Store.__len__", sM_len⟩]
def dfs : List DefY := dfs0 ++ (dfs1 ++ (dfs2))
def exs0 (K : PySem.W.Frag) : List Bool := [(He.Fa.glo "_wall").ok K, (He.Fa.glo "is_whole").ok K, (He.Fa.glo "is_element").ok K, (He.Fa.glo "is_count").ok K, (He.Fa.glo "is_run").ok K, (He.Fa.glo "is_block").ok K, (He.Fa.glo "base_of").ok K, (He.Fa.glo "run_of").ok K, (He.Fa.glo "_fit_together").ok K, (He.Fa.glo "level_of").ok K, (He.Fa.glo "size_of").ok K, (He.Fa.glo "text_of").ok K, (He.Fa.glo "node_with").ok K, (He.Fa.glo "_closed").ok K, (He.Fa.glo "_read_element").ok K, (He.Fa.glo "_read_count").ok K, (He.Fa.glo "_digits_end").ok K, (He.Fa.glo "whole_with").ok K, (He.Fa.glo "first_marks").ok K, (He.Fa.glo "_first_mark").ok K, (He.Fa.glo "_first_unlike").ok K, (He.Fa.glo "_code_at").ok K, (He.Fa.glo "next_marks").ok K, (He.Fa.glo "_next_mark").ok K, (He.Fa.glo "marks").ok K, (He.Fa.glo "peaks").ok K, (He.Fa.glo "cuts").ok K, (He.Fa.glo "blocks").ok K, (He.Fa.glo "made_runs").ok K, (He.Fa.glo "is_runs").ok K]
def exs1 (K : PySem.W.Frag) : List Bool := [(He.Fa.glo "_is_pair").ok K, (He.Fa.glo "rows_of").ok K, (He.Fa.glo "tree_of").ok K, (He.Fa.glo "melted").ok K, (He.Fa.glo "length_of").ok K, (He.Fa.glo "run_count").ok K, (He.Fa.glo "runs_of").ok K, (He.Fa.glo "_pairs_of").ok K, (He.Fa.glo "spliced").ok K, (He.Fa.glo "part").ok K, (He.Fa.glo "joined").ok K, (He.Fa.glo "_check_range").ok K, (He.Fa.glo "_pairs_between").ok K, (He.Fa.glo "_tree_of_pieces").ok K, (He.Fa.glo "repeated").ok K, (He.Fa.glo "_with_runs").ok K, (He.Fa.glo "_cut").ok K, (He.Fa.glo "show_runs").ok K, (He.Fa.glo "runs_with").ok K, (He.Fa.glo "_pair_with").ok K, (He.Fa.glo "is_name").ok K, (He.Fa.glo "_check_name").ok K, (He.Fa.glo "_check_runs").ok K, (He.Fa.glo "_trees_with").ok K, (He.Fa.glo "_law_pot").ok K, (He.Fa.glo "_law_take").ok K, (He.Fa.glo "_law_of").ok K, (He.Fa.glo "_law_sequence").ok K, (He.Fa.glo "_law_runs").ok K, (He.Fa.glo "_law_wide").ok K]
def exs2 (K : PySem.W.Frag) : List Bool := [(He.Fa.glo "_law_text").ok K, (He.Fa.glo "_law_first").ok K, (He.Fa.glo "_law_round").ok K, (He.Fa.glo "_law_marks").ok K, (He.Fa.glo "_law_pieces").ok K, (He.Fa.glo "_law_joined").ok K, (He.Fa.glo "_law_rows").ok K, (He.Fa.glo "_law_tree").ok K, (He.Fa.glo "_law_name").ok K, (He.Fa.glo "_law_caught").ok K, (He.Fa.glo "law").ok K, (He.Fa.glo "NoRange").ok K, (He.Fa.glo "TooLong").ok K, (He.Fa.glo "TooMany").ok K, (He.Fa.glo "BadName").ok K, (He.Fa.glo "NoName").ok K, (He.Fa.free "ValueError").ok K, (He.Fa.free "abs").ok K, (He.Fa.free "all").ok K, (He.Fa.free "bool").ok K, (He.Fa.free "classmethod").ok K, (He.Fa.free "dict").ok K, (He.Fa.free "enumerate").ok K, (He.Fa.free "int").ok K, (He.Fa.free "isinstance").ok K, (He.Fa.free "len").ok K, (He.Fa.free "list").ok K, (He.Fa.free "max").ok K, (He.Fa.free "min").ok K, (He.Fa.free "property").ok K]
def exs3 (K : PySem.W.Frag) : List Bool := [(He.Fa.free "range").ok K, (He.Fa.free "repr").ok K, (He.Fa.free "sorted").ok K, (He.Fa.free "str").ok K, (He.Fa.free "sum").ok K, (He.Fa.free "tuple").ok K, (He.Fa.free "zip").ok K, (He.Fa.str "DIGITS" "0123456789").ok K, (He.Fa.int "MOST_DIGITS" 61).ok K, (He.Fa.str "SIGNS" "0123456789 ()^").ok K, (He.Fa.int "ENDED" 14).ok K, (He.Fa.int "MOST_RUNS" 300).ok K, (He.Fa.int "LEFT_OF_PEAK" 6).ok K, (He.Fa.int "SHOWN" 6).ok K, (He.Fa.str "EMPTY" "-").ok K, (He.Fa.str "LETTERS" "abcdefghijklmnopqrstuvwxyz").ok K, (He.Fa.int "LONGEST_NAME" 8).ok K, (He.Fa.int "MOST_REPEATED_RUNS" 40).ok K, (He.Fa.glo "BlockError").ok K, e2B K "NoRange" "start" "stop", e1B K "TooLong" "limit", e1B K "TooMany" "limit", e1B K "BadName" "name", e1B K "NoName" "name", kitB K ["NoRange", "TooLong", "TooMany", "BadName", "NoName"], exmB K "BlockError" ["NoRange", "TooLong", "TooMany", "BadName", "NoName"], (He.Fa.glo "Store").ok K, (He.Fa.cls "Store").ok K, (He.Fa.noat "Store" "_kept").ok K, (He.Fa.noat "Store" "_earlier").ok K]
def exs4 (K : PySem.W.Frag) : List Bool := [(He.Fa.mkr "Store").ok K, rdB K "Store", conB K "Store" "MOST" 60, (He.Fa.meth "Store" "put").ok K, (He.Fa.meth "Store" "drop").ok K, (He.Fa.meth "Store" "tree").ok K, (He.Fa.meth "Store" "_check_kept").ok K, (He.Fa.meth "Store" "_keep").ok K, (He.Fa.meth "Store" "_change").ok K, proB K "Store" "names", proB K "Store" "changes", ownB K "Store" "__len__"]
def exs (K : PySem.W.Frag) : List Bool := exs0 K ++ (exs1 K ++ (exs2 K ++ (exs3 K ++ (exs4 K))))
def exB (K : PySem.W.Frag) : Bool := (exs K).all id
def loose0 : List Str := ["_wall", "BlockError", "BadText", "TooLong", "NoRange", "BadName", "BadRuns", "BadTimes", "NoName", "TooMany", "NothingToUndo", "DIGITS", "MOST_DIGITS", "is_whole", "is_element", "is_count", "is_run", "is_block", "base_of", "run_of", "_fit_together", "level_of", "size_of", "text_of", "node_with", "_closed", "_read_element", "_read_count", "_digits_end", "whole_with"]
def loose1 : List Str := ["SIGNS", "ENDED", "first_marks", "_first_mark", "_first_unlike", "_code_at", "next_marks", "_next_mark", "marks", "peaks", "cuts", "blocks", "made_runs", "MOST_RUNS", "is_runs", "_is_pair", "rows_of", "tree_of", "melted", "length_of", "run_count", "runs_of", "_pairs_of", "spliced", "part", "part_editing", "joined", "_check_range", "_pairs_between", "_tree_of_pieces"]
def loose2 : List Str := ["LEFT_OF_PEAK", "SHOWN", "repeated", "_with_runs", "_cut", "EMPTY", "show_runs", "runs_with", "_pair_with", "LETTERS", "LONGEST_NAME", "MOST_REPEATED_RUNS", "is_name", "Store", "_check_name", "_check_runs", "_trees_with", "_law_pot", "_law_take", "_law_of", "_law_sequence", "_law_runs", "_law_wide", "_law_text", "_law_first", "_law_round", "_law_marks", "_law_pieces", "_law_joined", "_law_rows"]
def loose3 : List Str := ["_law_tree", "_law_name", "_law_caught"]
def loose : List Str := loose0 ++ (loose1 ++ (loose2 ++ (loose3)))
abbrev RW : PySem.W.OpenRow := PySem.W.OpenLaw.row PySem.Challenge.rw_localblocks_k64_versions_put_and_dropped
abbrev hk : PySem.W.Hook := hookY 5 dfs ["law"] exB
def ob (s : PySem.W.SharedT) : AlY := obsY 5 dfs ["law"] exB (HandSHeadRun.getT s)
theorem ob_eq (s : PySem.W.SharedT) : ob s = hk.obs s.abs := obsY_eq (HandSHeadRun.getT_eq s)
set_option maxHeartbeats 0 in
theorem run (w : World) : HandSHeadRun.RunEq RW (PySem.W.view RW.prog [102]) hk ob 9000 loose w := by
  intro os
  kernel_rfl
set_option maxHeartbeats 0 in
theorem facts {P : Program} {w : World} {K : PySem.W.Frag} {h : Heap} {mg : Str → Option Value} {f : Addr} (X : K.In h) (G : h.Ns mainGlobals mg) (hfa : mg ("law" : Str) = some (.ref f)) (c : SaysY dfs ["law"] exB h K) :
    ∃ fd : FuncData, (∀ (s : Shared) (u : Value), BindsTo s fd ⟨[u], []⟩ [("script", u)]) ∧
      (∀ (H : Hp) (a : Addr) (ns : List Int), ns.length ≤ 63 → SqL K H a (ns.map V.int) → (∀ p ∈ (["law"] : List Str).map (tabY K), H p.2 = some (.tbl #[])) → spLaw K ((["law"] : List Str).map (tabY K)) [.ref a] H (fun v _ => v = .bl true) fun _ _ _ => False) ∧
      ∀ base : Heap, K.In base → base.Ns mainGlobals mg → (∀ p ∈ (["law"] : List Str).map (tabY K), LamX.TabB base mg p.1 p.2) → FnG P w K mg base CX0 32 f fd ["script"] (spLaw K ((["law"] : List Str).map (tabY K))) := by
  obtain ⟨v0, F0⟩ := c.at 0 (d := ⟨At "_wall", "_wall", "_wall", s__wall⟩) rfl
  have b0 := F0.binds (ps := ["k"]) fun _ _ _ _ _ _ us hl => match us, hl with | [_], _ => rfl
  obtain ⟨v1, F1⟩ := c.at 1 (d := ⟨At "is_whole", "is_whole", "is_whole", sWhole⟩) rfl
  have b1 := F1.binds (ps := ["value"]) fun _ _ _ _ _ _ us hl => match us, hl with | [_], _ => rfl
  obtain ⟨v2, F2⟩ := c.at 2 (d := ⟨At "is_element", "is_element", "is_element", sElement⟩) rfl
  have b2 := F2.binds (ps := ["value"]) fun _ _ _ _ _ _ us hl => match us, hl with | [_], _ => rfl
  obtain ⟨v3, F3⟩ := c.at 3 (d := ⟨At "is_count", "is_count", "is_count", sCount⟩) rfl
  have b3 := F3.binds (ps := ["value", "least"]) fun _ _ _ _ _ _ us hl => match us, hl with | [_, _], _ => rfl
  obtain ⟨v4, F4⟩ := c.at 4 (d := ⟨At "is_run", "is_run", "is_run", sIsRun⟩) rfl
  have b4 := F4.binds (ps := ["value"]) fun _ _ _ _ _ _ us hl => match us, hl with | [_], _ => rfl
  obtain ⟨v5, F5⟩ := c.at 5 (d := ⟨At "is_block", "is_block", "is_block", sIsBlk⟩) rfl
  have b5 := F5.binds (ps := ["value"]) fun _ _ _ _ _ _ us hl => match us, hl with | [_], _ => rfl
  obtain ⟨v6, F6⟩ := c.at 6 (d := ⟨At "base_of", "base_of", "base_of", sBase⟩) rfl
  have b6 := F6.binds (ps := ["node"]) fun _ _ _ _ _ _ us hl => match us, hl with | [_], _ => rfl
  obtain ⟨v7, F7⟩ := c.at 7 (d := ⟨At "run_of", "run_of", "run_of", sRunOf⟩) rfl
  have b7 := F7.binds (ps := ["node", "count"]) fun _ _ _ _ _ _ us hl => match us, hl with | [_, _], _ => rfl
  obtain ⟨v8, F8⟩ := c.at 8 (d := ⟨At "_fit_together", "_fit_together", "_fit_together", sFit⟩) rfl
  have b8 := F8.binds (ps := ["nodes"]) fun _ _ _ _ _ _ us hl => match us, hl with | [_], _ => rfl
  obtain ⟨v9, F9⟩ := c.at 9 (d := ⟨At "level_of", "level_of", "level_of", sLevel⟩) rfl
  have b9 := F9.binds (ps := ["node"]) fun _ _ _ _ _ _ us hl => match us, hl with | [_], _ => rfl
  obtain ⟨v10, F10⟩ := c.at 10 (d := ⟨At "size_of", "size_of", "size_of", sSize⟩) rfl
  have b10 := F10.binds (ps := ["node"]) fun _ _ _ _ _ _ us hl => match us, hl with | [_], _ => rfl
  obtain ⟨v11, F11⟩ := c.at 11 (d := ⟨At "text_of", "text_of", "text_of", sText⟩) rfl
  have b11 := F11.binds (ps := ["node"]) fun _ _ _ _ _ _ us hl => match us, hl with | [_], _ => rfl
  obtain ⟨v12, F12⟩ := c.at 12 (d := ⟨At "node_with", "node_with", "node_with", s_node_with⟩) rfl
  have b12 := F12.binds (ps := ["text"]) fun _ _ _ _ _ _ us hl => match us, hl with | [_], _ => rfl
  obtain ⟨v13, F13⟩ := c.at 13 (d := ⟨At "_closed", "_closed", "_closed", s__closed⟩) rfl
  have b13 := F13.binds (ps := ["parts"]) fun _ _ _ _ _ _ us hl => match us, hl with | [_], _ => rfl
  obtain ⟨v14, F14⟩ := c.at 14 (d := ⟨At "_read_element", "_read_element", "_read_element", s__read_element⟩) rfl
  have b14 := F14.binds (ps := ["text", "at"]) fun _ _ _ _ _ _ us hl => match us, hl with | [_, _], _ => rfl
  obtain ⟨v15, F15⟩ := c.at 15 (d := ⟨At "_read_count", "_read_count", "_read_count", s__read_count⟩) rfl
  have b15 := F15.binds (ps := ["node", "text", "at"]) fun _ _ _ _ _ _ us hl => match us, hl with | [_, _, _], _ => rfl
  obtain ⟨v16, F16⟩ := c.at 16 (d := ⟨At "_digits_end", "_digits_end", "_digits_end", s__digits_end⟩) rfl
  have b16 := F16.binds (ps := ["text", "at"]) fun _ _ _ _ _ _ us hl => match us, hl with | [_, _], _ => rfl
  obtain ⟨v17, F17⟩ := c.at 17 (d := ⟨At "whole_with", "whole_with", "whole_with", s_whole_with⟩) rfl
  have b17 := F17.binds (ps := ["text", "most"]) fun _ _ _ _ _ _ us hl => match us, hl with | [_, _], _ => rfl
  obtain ⟨v18, F18⟩ := c.at 18 (d := ⟨At "first_marks", "first_marks", "first_marks", sFirst⟩) rfl
  have b18 := F18.binds (ps := ["row"]) fun _ _ _ _ _ _ us hl => match us, hl with | [_], _ => rfl
  obtain ⟨v19, F19⟩ := c.at 19 (d := ⟨At "_first_mark", "_first_mark", "_first_mark", sFM⟩) rfl
  have b19 := F19.binds (ps := ["texts", "place"]) fun _ _ _ _ _ _ us hl => match us, hl with | [_, _], _ => rfl
  obtain ⟨v20, F20⟩ := c.at 20 (d := ⟨At "_first_unlike", "_first_unlike", "_first_unlike", sFU⟩) rfl
  have b20 := F20.binds (ps := ["one", "other"]) fun _ _ _ _ _ _ us hl => match us, hl with | [_, _], _ => rfl
  obtain ⟨v21, F21⟩ := c.at 21 (d := ⟨At "_code_at", "_code_at", "_code_at", sCodeAt⟩) rfl
  have b21 := F21.binds (ps := ["text", "at"]) fun _ _ _ _ _ _ us hl => match us, hl with | [_, _], _ => rfl
  obtain ⟨v22, F22⟩ := c.at 22 (d := ⟨At "next_marks", "next_marks", "next_marks", sNext⟩) rfl
  have b22 := F22.binds (ps := ["some"]) fun _ _ _ _ _ _ us hl => match us, hl with | [_], _ => rfl
  obtain ⟨v23, F23⟩ := c.at 23 (d := ⟨At "_next_mark", "_next_mark", "_next_mark", sNm⟩) rfl
  have b23 := F23.binds (ps := ["some", "place"]) fun _ _ _ _ _ _ us hl => match us, hl with | [_, _], _ => rfl
  obtain ⟨v24, F24⟩ := c.at 24 (d := ⟨At "marks", "marks", "marks", sMarks⟩) rfl
  have b24 := F24.binds (ps := ["row"]) fun _ _ _ _ _ _ us hl => match us, hl with | [_], _ => rfl
  obtain ⟨v25, F25⟩ := c.at 25 (d := ⟨At "peaks", "peaks", "peaks", sPeaks⟩) rfl
  have b25 := F25.binds (ps := ["row"]) fun _ _ _ _ _ _ us hl => match us, hl with | [_], _ => rfl
  obtain ⟨v26, F26⟩ := c.at 26 (d := ⟨At "cuts", "cuts", "cuts", sCuts⟩) rfl
  have b26 := F26.binds (ps := ["row"]) fun _ _ _ _ _ _ us hl => match us, hl with | [_], _ => rfl
  obtain ⟨v27, F27⟩ := c.at 27 (d := ⟨At "blocks", "blocks", "blocks", sBlocks⟩) rfl
  have b27 := F27.binds (ps := ["row"]) fun _ _ _ _ _ _ us hl => match us, hl with | [_], _ => rfl
  obtain ⟨v28, F28⟩ := c.at 28 (d := ⟨At "made_runs", "made_runs", "made_runs", sMade⟩) rfl
  have b28 := F28.binds (ps := ["nodes"]) fun _ _ _ _ _ _ us hl => match us, hl with | [_], _ => rfl
  obtain ⟨v29, F29⟩ := c.at 29 (d := ⟨At "is_runs", "is_runs", "is_runs", sIsRuns⟩) rfl
  have b29 := F29.binds (ps := ["value"]) fun _ _ _ _ _ _ us hl => match us, hl with | [_], _ => rfl
  obtain ⟨v30, F30⟩ := c.at 30 (d := ⟨At "_is_pair", "_is_pair", "_is_pair", sIsPair⟩) rfl
  have b30 := F30.binds (ps := ["value"]) fun _ _ _ _ _ _ us hl => match us, hl with | [_], _ => rfl
  obtain ⟨v31, F31⟩ := c.at 31 (d := ⟨At "rows_of", "rows_of", "rows_of", sRows⟩) rfl
  have b31 := F31.binds (ps := ["runs"]) fun _ _ _ _ _ _ us hl => match us, hl with | [_], _ => rfl
  obtain ⟨v32, F32⟩ := c.at 32 (d := ⟨At "tree_of", "tree_of", "tree_of", sTree⟩) rfl
  have b32 := F32.binds (ps := ["runs"]) fun _ _ _ _ _ _ us hl => match us, hl with | [_], _ => rfl
  obtain ⟨v33, F33⟩ := c.at 33 (d := ⟨At "melted", "melted", "melted", s_melted⟩) rfl
  have b33 := F33.binds (ps := ["pieces"]) fun _ _ _ _ _ _ us hl => match us, hl with | [_], _ => rfl
  obtain ⟨v34, F34⟩ := c.at 34 (d := ⟨At "length_of", "length_of", "length_of", sLenOf⟩) rfl
  have b34 := F34.binds (ps := ["tree"]) fun _ _ _ _ _ _ us hl => match us, hl with | [_], _ => rfl
  obtain ⟨v35, F35⟩ := c.at 35 (d := ⟨At "run_count", "run_count", "run_count", sCnt⟩) rfl
  have b35 := F35.binds (ps := ["tree"]) fun _ _ _ _ _ _ us hl => match us, hl with | [_], _ => rfl
  obtain ⟨v36, F36⟩ := c.at 36 (d := ⟨At "runs_of", "runs_of", "runs_of", sRunsOf⟩) rfl
  have b36 := F36.binds (ps := ["tree"]) fun _ _ _ _ _ _ us hl => match us, hl with | [_], _ => rfl
  obtain ⟨v37, F37⟩ := c.at 37 (d := ⟨At "_pairs_of", "_pairs_of", "_pairs_of", sPairs⟩) rfl
  have b37 := F37.binds (ps := ["tree"]) fun _ _ _ _ _ _ us hl => match us, hl with | [_], _ => rfl
  obtain ⟨v38, F38⟩ := c.at 38 (d := ⟨At "spliced", "spliced", "spliced", s_spliced⟩) rfl
  have b38 := F38.binds (ps := ["tree", "start", "stop", "runs"]) fun _ _ _ _ _ _ us hl => match us, hl with | [_, _, _, _], _ => rfl
  obtain ⟨v39, F39⟩ := c.at 39 (d := ⟨At "part", "part", "part", s_part⟩) rfl
  have b39 := F39.binds (ps := ["tree", "start", "stop"]) fun _ _ _ _ _ _ us hl => match us, hl with | [_, _, _], _ => rfl
  obtain ⟨v40, F40⟩ := c.at 40 (d := ⟨At "joined", "joined", "joined", s_joined⟩) rfl
  have b40 := F40.binds (ps := ["one", "other"]) fun _ _ _ _ _ _ us hl => match us, hl with | [_, _], _ => rfl
  obtain ⟨v41, F41⟩ := c.at 41 (d := ⟨At "_check_range", "_check_range", "_check_range", s__check_range⟩) rfl
  have b41 := F41.binds (ps := ["tree", "start", "stop"]) fun _ _ _ _ _ _ us hl => match us, hl with | [_, _, _], _ => rfl
  obtain ⟨v42, F42⟩ := c.at 42 (d := ⟨At "_pairs_between", "_pairs_between", "_pairs_between", s__pairs_between⟩) rfl
  have b42 := F42.binds (ps := ["pairs", "start", "stop"]) fun _ _ _ _ _ _ us hl => match us, hl with | [_, _, _], _ => rfl
  obtain ⟨v43, F43⟩ := c.at 43 (d := ⟨At "_tree_of_pieces", "_tree_of_pieces", "_tree_of_pieces", s__tree_of_pieces⟩) rfl
  have b43 := F43.binds (ps := ["pieces"]) fun _ _ _ _ _ _ us hl => match us, hl with | [_], _ => rfl
  obtain ⟨v44, F44⟩ := c.at 44 (d := ⟨At "repeated", "repeated", "repeated", s_repeated⟩) rfl
  have b44 := F44.binds (ps := ["runs", "times"]) fun _ _ _ _ _ _ us hl => match us, hl with | [_, _], _ => rfl
  obtain ⟨v45, F45⟩ := c.at 45 (d := ⟨At "_with_runs", "_with_runs", "_with_runs", s__with_runs⟩) rfl
  have b45 := F45.binds (ps := ["head", "period", "times", "tail"]) fun _ _ _ _ _ _ us hl => match us, hl with | [_, _, _, _], _ => rfl
  obtain ⟨v46, F46⟩ := c.at 46 (d := ⟨At "_cut", "_cut", "_cut", s__cut⟩) rfl
  have b46 := F46.binds (ps := ["head", "period", "times", "tail"]) fun _ _ _ _ _ _ us hl => match us, hl with | [_, _, _, _], _ => rfl
  obtain ⟨v47, F47⟩ := c.at 47 (d := ⟨At "show_runs", "show_runs", "show_runs", s_show_runs⟩) rfl
  have b47 := F47.binds (ps := ["runs"]) fun _ _ _ _ _ _ us hl => match us, hl with | [_], _ => rfl
  obtain ⟨v48, F48⟩ := c.at 48 (d := ⟨At "runs_with", "runs_with", "runs_with", s_runs_with⟩) rfl
  have b48 := F48.binds (ps := ["text"]) fun _ _ _ _ _ _ us hl => match us, hl with | [_], _ => rfl
  obtain ⟨v49, F49⟩ := c.at 49 (d := ⟨At "_pair_with", "_pair_with", "_pair_with", s__pair_with⟩) rfl
  have b49 := F49.binds (ps := ["word"]) fun _ _ _ _ _ _ us hl => match us, hl with | [_], _ => rfl
  obtain ⟨v50, F50⟩ := c.at 50 (d := ⟨At "is_name", "is_name", "is_name", s_is_name⟩) rfl
  have b50 := F50.binds (ps := ["value"]) fun _ _ _ _ _ _ us hl => match us, hl with | [_], _ => rfl
  obtain ⟨v51, F51⟩ := c.at 51 (d := ⟨At "_check_name", "_check_name", "_check_name", s__check_name⟩) rfl
  have b51 := F51.binds (ps := ["value"]) fun _ _ _ _ _ _ us hl => match us, hl with | [_], _ => rfl
  obtain ⟨v52, F52⟩ := c.at 52 (d := ⟨At "_check_runs", "_check_runs", "_check_runs", s__check_runs⟩) rfl
  have b52 := F52.binds (ps := ["value"]) fun _ _ _ _ _ _ us hl => match us, hl with | [_], _ => rfl
  obtain ⟨v53, F53⟩ := c.at 53 (d := ⟨At "_trees_with", "_trees_with", "_trees_with", s__trees_with⟩) rfl
  have b53 := F53.binds (ps := ["text"]) fun _ _ _ _ _ _ us hl => match us, hl with | [_], _ => rfl
  obtain ⟨v54, F54⟩ := c.at 54 (d := ⟨At "_law_pot", "_law_pot", "_law_pot", sPot⟩) rfl
  have b54 := F54.binds (ps := ["script", "k"]) fun _ _ _ _ _ _ us hl => match us, hl with | [_, _], _ => rfl
  obtain ⟨v55, F55⟩ := c.at 55 (d := ⟨At "_law_take", "_law_take", "_law_take", sTake⟩) rfl
  have b55 := F55.binds (ps := ["pot", "bound"]) fun _ _ _ _ _ _ us hl => match us, hl with | [_, _], _ => rfl
  obtain ⟨v56, F56⟩ := c.at 56 (d := ⟨At "_law_of", "_law_of", "_law_of", sOf⟩) rfl
  have b56 := F56.binds (ps := ["pot", "some"]) fun _ _ _ _ _ _ us hl => match us, hl with | [_, _], _ => rfl
  obtain ⟨v57, F57⟩ := c.at 57 (d := ⟨At "_law_sequence", "_law_sequence", "_law_sequence", sSeq⟩) rfl
  have b57 := F57.binds (ps := ["pot", "most"]) fun _ _ _ _ _ _ us hl => match us, hl with | [_, _], _ => rfl
  obtain ⟨v58, F58⟩ := c.at 58 (d := ⟨At "_law_runs", "_law_runs", "_law_runs", sLRuns⟩) rfl
  have b58 := F58.binds (ps := ["some"]) fun _ _ _ _ _ _ us hl => match us, hl with | [_], _ => rfl
  obtain ⟨v59, F59⟩ := c.at 59 (d := ⟨At "_law_wide", "_law_wide", "_law_wide", sWide⟩) rfl
  have b59 := F59.binds (ps := ["pot", "most"]) fun _ _ _ _ _ _ us hl => match us, hl with | [_, _], _ => rfl
  obtain ⟨v60, F60⟩ := c.at 60 (d := ⟨At "_law_text", "_law_text", "_law_text", sLText⟩) rfl
  have b60 := F60.binds (ps := ["node"]) fun _ _ _ _ _ _ us hl => match us, hl with | [_], _ => rfl
  obtain ⟨v61, F61⟩ := c.at 61 (d := ⟨At "_law_first", "_law_first", "_law_first", sLFirst⟩) rfl
  have b61 := F61.binds (ps := ["row"]) fun _ _ _ _ _ _ us hl => match us, hl with | [_], _ => rfl
  obtain ⟨v62, F62⟩ := c.at 62 (d := ⟨At "_law_round", "_law_round", "_law_round", sRound⟩) rfl
  have b62 := F62.binds (ps := ["some"]) fun _ _ _ _ _ _ us hl => match us, hl with | [_], _ => rfl
  obtain ⟨v63, F63⟩ := c.at 63 (d := ⟨At "_law_marks", "_law_marks", "_law_marks", sLMarks⟩) rfl
  have b63 := F63.binds (ps := ["row"]) fun _ _ _ _ _ _ us hl => match us, hl with | [_], _ => rfl
  obtain ⟨v64, F64⟩ := c.at 64 (d := ⟨At "_law_pieces", "_law_pieces", "_law_pieces", sLPieces⟩) rfl
  have b64 := F64.binds (ps := ["row"]) fun _ _ _ _ _ _ us hl => match us, hl with | [_], _ => rfl
  obtain ⟨v65, F65⟩ := c.at 65 (d := ⟨At "_law_joined", "_law_joined", "_law_joined", sJoined⟩) rfl
  have b65 := F65.binds (ps := ["nodes"]) fun _ _ _ _ _ _ us hl => match us, hl with | [_], _ => rfl
  obtain ⟨v66, F66⟩ := c.at 66 (d := ⟨At "_law_rows", "_law_rows", "_law_rows", sLRows⟩) rfl
  have b66 := F66.binds (ps := ["given"]) fun _ _ _ _ _ _ us hl => match us, hl with | [_], _ => rfl
  obtain ⟨v67, F67⟩ := c.at 67 (d := ⟨At "_law_tree", "_law_tree", "_law_tree", sLTree⟩) rfl
  have b67 := F67.binds (ps := ["given"]) fun _ _ _ _ _ _ us hl => match us, hl with | [_], _ => rfl
  obtain ⟨v68, F68⟩ := c.at 68 (d := ⟨At "_law_name", "_law_name", "_law_name", s__law_name⟩) rfl
  have b68 := F68.binds (ps := ["pot"]) fun _ _ _ _ _ _ us hl => match us, hl with | [_], _ => rfl
  obtain ⟨v69, F69⟩ := c.at 69 (d := ⟨At "_law_caught", "_law_caught", "_law_caught", s__law_caught⟩) rfl
  have b69 := F69.binds (ps := ["ask"]) fun _ _ _ _ _ _ us hl => match us, hl with | [_], _ => rfl
  obtain ⟨v70, F70⟩ := c.at 70 (d := ⟨At "law", "law", "law", sLaw⟩) rfl
  obtain ⟨v71, F71⟩ := c.at 71 (d := ⟨In "NoRange" "__init__", "__init__", "NoRange.__init__", sI_NoRange⟩) rfl
  have b71 := F71.binds (ps := ["self", "start", "stop"]) fun _ _ _ _ _ _ us hl => match us, hl with | [_, _, _], _ => rfl
  obtain ⟨v72, F72⟩ := c.at 72 (d := ⟨In "TooLong" "__init__", "__init__", "TooLong.__init__", sI_TooLong⟩) rfl
  have b72 := F72.binds (ps := ["self", "limit"]) fun _ _ _ _ _ _ us hl => match us, hl with | [_, _], _ => rfl
  obtain ⟨v73, F73⟩ := c.at 73 (d := ⟨In "TooMany" "__init__", "__init__", "TooMany.__init__", sI_TooMany⟩) rfl
  have b73 := F73.binds (ps := ["self", "limit"]) fun _ _ _ _ _ _ us hl => match us, hl with | [_, _], _ => rfl
  obtain ⟨v74, F74⟩ := c.at 74 (d := ⟨In "BadName" "__init__", "__init__", "BadName.__init__", sI_BadName⟩) rfl
  have b74 := F74.binds (ps := ["self", "name"]) fun _ _ _ _ _ _ us hl => match us, hl with | [_, _], _ => rfl
  obtain ⟨v75, F75⟩ := c.at 75 (d := ⟨In "NoName" "__init__", "__init__", "NoName.__init__", sI_NoName⟩) rfl
  have b75 := F75.binds (ps := ["self", "name"]) fun _ _ _ _ _ _ us hl => match us, hl with | [_, _], _ => rfl
  obtain ⟨v76, F76⟩ := c.at 76 (d := ⟨In "Store" "__init__", "__init__", "Store.__init__", sM_init⟩) rfl
  have b76 := F76.binds (ps := ["self"]) fun _ _ _ _ _ _ us hl => match us, hl with | [_], _ => rfl
  obtain ⟨v77, F77⟩ := c.at 77 (d := ⟨In "Store" "put", "put", "Store.put", sM_put⟩) rfl
  have b77 := F77.binds (ps := ["self", "name", "runs"]) fun _ _ _ _ _ _ us hl => match us, hl with | [_, _, _], _ => rfl
  obtain ⟨v78, F78⟩ := c.at 78 (d := ⟨In "Store" "drop", "drop", "Store.drop", sM_drop⟩) rfl
  have b78 := F78.binds (ps := ["self", "name"]) fun _ _ _ _ _ _ us hl => match us, hl with | [_, _], _ => rfl
  obtain ⟨v79, F79⟩ := c.at 79 (d := ⟨In "Store" "tree", "tree", "Store.tree", sM_tree⟩) rfl
  have b79 := F79.binds (ps := ["self", "name"]) fun _ _ _ _ _ _ us hl => match us, hl with | [_, _], _ => rfl
  obtain ⟨v80, F80⟩ := c.at 80 (d := ⟨In "Store" "_check_kept", "_check_kept", "Store._check_kept", sM_check_kept⟩) rfl
  have b80 := F80.binds (ps := ["self", "name"]) fun _ _ _ _ _ _ us hl => match us, hl with | [_, _], _ => rfl
  obtain ⟨v81, F81⟩ := c.at 81 (d := ⟨In "Store" "_keep", "_keep", "Store._keep", sM_keep⟩) rfl
  have b81 := F81.binds (ps := ["self", "name", "tree"]) fun _ _ _ _ _ _ us hl => match us, hl with | [_, _, _], _ => rfl
  obtain ⟨v82, F82⟩ := c.at 82 (d := ⟨In "Store" "_change", "_change", "Store._change", sM_change⟩) rfl
  have b82 := F82.binds (ps := ["self", "kept"]) fun _ _ _ _ _ _ us hl => match us, hl with | [_, _], _ => rfl
  obtain ⟨v83, F83⟩ := c.at 83 (d := ⟨Pro "Store" "names", "names", "Store.names", sM_names⟩) rfl
  have b83 := F83.binds (ps := ["self"]) fun _ _ _ _ _ _ us hl => match us, hl with | [_], _ => rfl
  obtain ⟨v84, F84⟩ := c.at 84 (d := ⟨Pro "Store" "changes", "changes", "Store.changes", sM_changes⟩) rfl
  have b84 := F84.binds (ps := ["self"]) fun _ _ _ _ _ _ us hl => match us, hl with | [_], _ => rfl
  obtain ⟨v85, F85⟩ := c.at 85 (d := ⟨In "Store" "__len__", "__len__", "Store.__len__", sM_len⟩) rfl
  have b85 := F85.binds (ps := ["self"]) fun _ _ _ _ _ _ us hl => match us, hl with | [_], _ => rfl
  obtain ⟨tDIGITS, yDIGITS⟩ := He.str_ok X G (x := "DIGITS") (all_at c.ex 97 rfl)
  obtain ⟨tMOST_DIGITS, yMOST_DIGITS⟩ := He.int_ok X G (x := "MOST_DIGITS") (all_at c.ex 98 rfl)
  obtain ⟨tSIGNS, ySIGNS⟩ := He.str_ok X G (x := "SIGNS") (all_at c.ex 99 rfl)
  obtain ⟨tENDED, yENDED⟩ := He.int_ok X G (x := "ENDED") (all_at c.ex 100 rfl)
  obtain ⟨tMOST_RUNS, yMOST_RUNS⟩ := He.int_ok X G (x := "MOST_RUNS") (all_at c.ex 101 rfl)
  obtain ⟨tLEFT_OF_PEAK, yLEFT_OF_PEAK⟩ := He.int_ok X G (x := "LEFT_OF_PEAK") (all_at c.ex 102 rfl)
  obtain ⟨tSHOWN, ySHOWN⟩ := He.int_ok X G (x := "SHOWN") (all_at c.ex 103 rfl)
  obtain ⟨tEMPTY, yEMPTY⟩ := He.str_ok X G (x := "EMPTY") (all_at c.ex 104 rfl)
  obtain ⟨tLETTERS, yLETTERS⟩ := He.str_ok X G (x := "LETTERS") (all_at c.ex 105 rfl)
  obtain ⟨tLONGEST_NAME, yLONGEST_NAME⟩ := He.int_ok X G (x := "LONGEST_NAME") (all_at c.ex 106 rfl)
  obtain ⟨tMOST_REPEATED_RUNS, yMOST_REPEATED_RUNS⟩ := He.int_ok X G (x := "MOST_REPEATED_RUNS") (all_at c.ex 107 rfl)
  have e := hfa.symm.trans (He.glo_ok X G (x := "law") (all_at c.ex 70 rfl))
  cases e
  let Y : Facts K mg :=
    { fwall := F0, gwall := (He.glo_ok X G (x := "_wall") (all_at c.ex 0 rfl)), bwall := b0, fis_whole := F1, gis_whole := (He.glo_ok X G (x := "is_whole") (all_at c.ex 1 rfl)), bis_whole := b1, fis_element := F2, gis_element := (He.glo_ok X G (x := "is_element") (all_at c.ex 2 rfl)), bis_element := b2, fis_count := F3, gis_count := (He.glo_ok X G (x := "is_count") (all_at c.ex 3 rfl)), bis_count := b3, fis_run := F4, gis_run := (He.glo_ok X G (x := "is_run") (all_at c.ex 4 rfl)), bis_run := b4, fis_block := F5, gis_block := (He.glo_ok X G (x := "is_block") (all_at c.ex 5 rfl)), bis_block := b5, fbase_of := F6, gbase_of := (He.glo_ok X G (x := "base_of") (all_at c.ex 6 rfl)), bbase_of := b6, frun_of := F7, grun_of := (He.glo_ok X G (x := "run_of") (all_at c.ex 7 rfl)), brun_of := b7, ffit_together := F8, gfit_together := (He.glo_ok X G (x := "_fit_together") (all_at c.ex 8 rfl)), bfit_together := b8, flevel_of := F9, glevel_of := (He.glo_ok X G (x := "level_of") (all_at c.ex 9 rfl)), blevel_of := b9, fsize_of := F10, gsize_of := (He.glo_ok X G (x := "size_of") (all_at c.ex 10 rfl)), bsize_of := b10, ftext_of := F11, gtext_of := (He.glo_ok X G (x := "text_of") (all_at c.ex 11 rfl)), btext_of := b11, fnode_with := F12, gnode_with := (He.glo_ok X G (x := "node_with") (all_at c.ex 12 rfl)), bnode_with := b12, fclosed := F13, gclosed := (He.glo_ok X G (x := "_closed") (all_at c.ex 13 rfl)), bclosed := b13, fread_element := F14, gread_element := (He.glo_ok X G (x := "_read_element") (all_at c.ex 14 rfl)), bread_element := b14, fread_count := F15, gread_count := (He.glo_ok X G (x := "_read_count") (all_at c.ex 15 rfl)), bread_count := b15, fdigits_end := F16, gdigits_end := (He.glo_ok X G (x := "_digits_end") (all_at c.ex 16 rfl)), bdigits_end := b16, fwhole_with := F17, gwhole_with := (He.glo_ok X G (x := "whole_with") (all_at c.ex 17 rfl)), bwhole_with := b17, ffirst_marks := F18, gfirst_marks := (He.glo_ok X G (x := "first_marks") (all_at c.ex 18 rfl)), bfirst_marks := b18, ffirst_mark := F19, gfirst_mark := (He.glo_ok X G (x := "_first_mark") (all_at c.ex 19 rfl)), bfirst_mark := b19, ffirst_unlike := F20, gfirst_unlike := (He.glo_ok X G (x := "_first_unlike") (all_at c.ex 20 rfl)), bfirst_unlike := b20, fcode_at := F21, gcode_at := (He.glo_ok X G (x := "_code_at") (all_at c.ex 21 rfl)), bcode_at := b21, fnext_marks := F22, gnext_marks := (He.glo_ok X G (x := "next_marks") (all_at c.ex 22 rfl)), bnext_marks := b22, fnext_mark := F23, gnext_mark := (He.glo_ok X G (x := "_next_mark") (all_at c.ex 23 rfl)), bnext_mark := b23, fmarks := F24, gmarks := (He.glo_ok X G (x := "marks") (all_at c.ex 24 rfl)), bmarks := b24, fpeaks := F25, gpeaks := (He.glo_ok X G (x := "peaks") (all_at c.ex 25 rfl)), bpeaks := b25, fcuts := F26, gcuts := (He.glo_ok X G (x := "cuts") (all_at c.ex 26 rfl)), bcuts := b26, fblocks := F27, gblocks := (He.glo_ok X G (x := "blocks") (all_at c.ex 27 rfl)), bblocks := b27, fmade_runs := F28, gmade_runs := (He.glo_ok X G (x := "made_runs") (all_at c.ex 28 rfl)), bmade_runs := b28, fis_runs := F29, gis_runs := (He.glo_ok X G (x := "is_runs") (all_at c.ex 29 rfl)), bis_runs := b29, fis_pair := F30, gis_pair := (He.glo_ok X G (x := "_is_pair") (all_at c.ex 30 rfl)), bis_pair := b30, frows_of := F31, grows_of := (He.glo_ok X G (x := "rows_of") (all_at c.ex 31 rfl)), brows_of := b31, ftree_of := F32, gtree_of := (He.glo_ok X G (x := "tree_of") (all_at c.ex 32 rfl)), btree_of := b32, fmelted := F33, gmelted := (He.glo_ok X G (x := "melted") (all_at c.ex 33 rfl)), bmelted := b33, flength_of := F34, glength_of := (He.glo_ok X G (x := "length_of") (all_at c.ex 34 rfl)), blength_of := b34, frun_count := F35, grun_count := (He.glo_ok X G (x := "run_count") (all_at c.ex 35 rfl)), brun_count := b35, fruns_of := F36, gruns_of := (He.glo_ok X G (x := "runs_of") (all_at c.ex 36 rfl)), bruns_of := b36, fpairs_of := F37, gpairs_of := (He.glo_ok X G (x := "_pairs_of") (all_at c.ex 37 rfl)), bpairs_of := b37, fspliced := F38, gspliced := (He.glo_ok X G (x := "spliced") (all_at c.ex 38 rfl)), bspliced := b38, fpart := F39, gpart := (He.glo_ok X G (x := "part") (all_at c.ex 39 rfl)), bpart := b39, fjoined := F40, gjoined := (He.glo_ok X G (x := "joined") (all_at c.ex 40 rfl)), bjoined := b40, fcheck_range := F41, gcheck_range := (He.glo_ok X G (x := "_check_range") (all_at c.ex 41 rfl)), bcheck_range := b41, fpairs_between := F42, gpairs_between := (He.glo_ok X G (x := "_pairs_between") (all_at c.ex 42 rfl)), bpairs_between := b42, ftree_of_pieces := F43, gtree_of_pieces := (He.glo_ok X G (x := "_tree_of_pieces") (all_at c.ex 43 rfl)), btree_of_pieces := b43, frepeated := F44, grepeated := (He.glo_ok X G (x := "repeated") (all_at c.ex 44 rfl)), brepeated := b44, fwith_runs := F45, gwith_runs := (He.glo_ok X G (x := "_with_runs") (all_at c.ex 45 rfl)), bwith_runs := b45, fcut := F46, gcut := (He.glo_ok X G (x := "_cut") (all_at c.ex 46 rfl)), bcut := b46, fshow_runs := F47, gshow_runs := (He.glo_ok X G (x := "show_runs") (all_at c.ex 47 rfl)), bshow_runs := b47, fruns_with := F48, gruns_with := (He.glo_ok X G (x := "runs_with") (all_at c.ex 48 rfl)), bruns_with := b48, fpair_with := F49, gpair_with := (He.glo_ok X G (x := "_pair_with") (all_at c.ex 49 rfl)), bpair_with := b49, fis_name := F50, gis_name := (He.glo_ok X G (x := "is_name") (all_at c.ex 50 rfl)), bis_name := b50, fcheck_name := F51, gcheck_name := (He.glo_ok X G (x := "_check_name") (all_at c.ex 51 rfl)), bcheck_name := b51, fcheck_runs := F52, gcheck_runs := (He.glo_ok X G (x := "_check_runs") (all_at c.ex 52 rfl)), bcheck_runs := b52, ftrees_with := F53, gtrees_with := (He.glo_ok X G (x := "_trees_with") (all_at c.ex 53 rfl)), btrees_with := b53, fl_pot := F54, gl_pot := (He.glo_ok X G (x := "_law_pot") (all_at c.ex 54 rfl)), bl_pot := b54, fl_take := F55, gl_take := (He.glo_ok X G (x := "_law_take") (all_at c.ex 55 rfl)), bl_take := b55, fl_of := F56, gl_of := (He.glo_ok X G (x := "_law_of") (all_at c.ex 56 rfl)), bl_of := b56, fl_sequence := F57, gl_sequence := (He.glo_ok X G (x := "_law_sequence") (all_at c.ex 57 rfl)), bl_sequence := b57, fl_runs := F58, gl_runs := (He.glo_ok X G (x := "_law_runs") (all_at c.ex 58 rfl)), bl_runs := b58, fl_wide := F59, gl_wide := (He.glo_ok X G (x := "_law_wide") (all_at c.ex 59 rfl)), bl_wide := b59, fl_text := F60, gl_text := (He.glo_ok X G (x := "_law_text") (all_at c.ex 60 rfl)), bl_text := b60, fl_first := F61, gl_first := (He.glo_ok X G (x := "_law_first") (all_at c.ex 61 rfl)), bl_first := b61, fl_round := F62, gl_round := (He.glo_ok X G (x := "_law_round") (all_at c.ex 62 rfl)), bl_round := b62, fl_marks := F63, gl_marks := (He.glo_ok X G (x := "_law_marks") (all_at c.ex 63 rfl)), bl_marks := b63, fl_pieces := F64, gl_pieces := (He.glo_ok X G (x := "_law_pieces") (all_at c.ex 64 rfl)), bl_pieces := b64, fl_joined := F65, gl_joined := (He.glo_ok X G (x := "_law_joined") (all_at c.ex 65 rfl)), bl_joined := b65, fl_rows := F66, gl_rows := (He.glo_ok X G (x := "_law_rows") (all_at c.ex 66 rfl)), bl_rows := b66, fl_tree := F67, gl_tree := (He.glo_ok X G (x := "_law_tree") (all_at c.ex 67 rfl)), bl_tree := b67, fl_name := F68, gl_name := (He.glo_ok X G (x := "_law_name") (all_at c.ex 68 rfl)), bl_name := b68, fl_caught := F69, gl_caught := (He.glo_ok X G (x := "_law_caught") (all_at c.ex 69 rfl)), bl_caught := b69, ValueError := He.free_ok X G (x := "ValueError") (all_at c.ex 76 rfl), abs := He.free_ok X G (x := "abs") (all_at c.ex 77 rfl), all := He.free_ok X G (x := "all") (all_at c.ex 78 rfl), bool := He.free_ok X G (x := "bool") (all_at c.ex 79 rfl), classmethod := He.free_ok X G (x := "classmethod") (all_at c.ex 80 rfl), dict := He.free_ok X G (x := "dict") (all_at c.ex 81 rfl), enumerate := He.free_ok X G (x := "enumerate") (all_at c.ex 82 rfl), int := He.free_ok X G (x := "int") (all_at c.ex 83 rfl), isinstance := He.free_ok X G (x := "isinstance") (all_at c.ex 84 rfl), len := He.free_ok X G (x := "len") (all_at c.ex 85 rfl), list := He.free_ok X G (x := "list") (all_at c.ex 86 rfl), max := He.free_ok X G (x := "max") (all_at c.ex 87 rfl), min := He.free_ok X G (x := "min") (all_at c.ex 88 rfl), property := He.free_ok X G (x := "property") (all_at c.ex 89 rfl), range := He.free_ok X G (x := "range") (all_at c.ex 90 rfl), repr := He.free_ok X G (x := "repr") (all_at c.ex 91 rfl), sorted := He.free_ok X G (x := "sorted") (all_at c.ex 92 rfl), str := He.free_ok X G (x := "str") (all_at c.ex 93 rfl), sum := He.free_ok X G (x := "sum") (all_at c.ex 94 rfl), tuple := He.free_ok X G (x := "tuple") (all_at c.ex 95 rfl), zip := He.free_ok X G (x := "zip") (all_at c.ex 96 rfl), DIGITS := yDIGITS, MOST_DIGITS := yMOST_DIGITS, SIGNS := ySIGNS, ENDED := yENDED, MOST_RUNS := yMOST_RUNS, LEFT_OF_PEAK := yLEFT_OF_PEAK, SHOWN := ySHOWN, EMPTY := yEMPTY, LETTERS := yLETTERS, LONGEST_NAME := yLONGEST_NAME, MOST_REPEATED_RUNS := yMOST_REPEATED_RUNS }
  let EF := (show ErrN K mg from { gB := (He.glo_ok X G (x := "BlockError") (all_at c.ex 108 rfl)), gR := (He.glo_ok X G (x := "NoRange") (all_at c.ex 71 rfl)), gL := (He.glo_ok X G (x := "TooLong") (all_at c.ex 72 rfl)), gM := (He.glo_ok X G (x := "TooMany") (all_at c.ex 73 rfl)), gN := (He.glo_ok X G (x := "BadName") (all_at c.ex 74 rfl)), O := cls1_of (He.glo_ok X G (x := "NoName") (all_at c.ex 75 rfl)) (all_at c.ex 113 rfl) F75 b75, xO := exm_of (all_at c.ex 115 rfl) 4 (by decide), OR := kit_of (all_at c.ex 114 rfl) 4 0 (by decide) (by decide), OL := kit_more (kit_of (all_at c.ex 114 rfl) 4 1 (by decide) (by decide)) (kit_more (kit_of (all_at c.ex 114 rfl) 4 2 (by decide) (by decide)) kit_end), OO := kit_skip (kit_of (all_at c.ex 114 rfl) 4 3 (by decide) (by decide)) (kit_hit (kit_of (all_at c.ex 114 rfl) 4 4 (by decide) (by decide))), ON := kit_of (all_at c.ex 114 rfl) 4 3 (by decide) (by decide) })
  obtain ⟨tM, moS⟩ := con_of (all_at c.ex 122 rfl)
  let S : StoF K mg :=
    { g := (He.glo_ok X G (x := "Store") (all_at c.ex 116 rfl)), c := He.cls_ok (all_at c.ex 117 rfl), nK := He.noat_ok (all_at c.ex 118 rfl), nE := He.noat_ok (all_at c.ex 119 rfl), new := He.mkr_ok (all_at c.ex 120 rfl), I := F76, bI := b76, rd := rd_of (all_at c.ex 121 rfl), most := moS, put := ⟨F77, He.meth_ok (all_at c.ex 123 rfl), b77⟩, drop := ⟨F78, He.meth_ok (all_at c.ex 124 rfl), b78⟩, tree := ⟨F79, He.meth_ok (all_at c.ex 125 rfl), b79⟩, chk := ⟨F80, He.meth_ok (all_at c.ex 126 rfl), b80⟩, keep := ⟨F81, He.meth_ok (all_at c.ex 127 rfl), b81⟩, chg := ⟨F82, He.meth_ok (all_at c.ex 128 rfl), b82⟩, names := ⟨F83, pro_of (all_at c.ex 129 rfl), b83⟩, changes := ⟨F84, pro_of (all_at c.ex 130 rfl), b84⟩, len := (own_of (all_at c.ex 131 rfl)).1, tlen := (own_of (all_at c.ex 131 rfl)).2, FL := F85, bL := b85 }
  refine ⟨_, ?_, fun H a ns hl hS ht => ?_, fun base _ _ hTB => ok_law F70 Y S EF (code_of F70) (hTB _ List.mem_cons_self)⟩
  · obtain ⟨oc, od, kV, doc, pm, an, cdv, ct, osl, rfl, lk, hcd⟩ := F70.ex
    exact fun s u => .of_eq rfl
  · exact ⟨a, ns, rfl, hS, hl, ht, fun _ => rfl⟩
end C64
open PySem PySem.W PySem.Calls PyProof.Rows
set_option maxHeartbeats 0 in
theorem PySem.Challenge.cw_localblocks_k64_versions_put_and_dropped_holds : PySem.Challenge.rw_localblocks_k64_versions_put_and_dropped.Holds := by
  w_on; o_law
  refine HandSHeadRun.head_any (r := OpenLaw.row PySem.Challenge.rw_localblocks_k64_versions_put_and_dropped) (q := view (OpenLaw.row PySem.Challenge.rw_localblocks_k64_versions_put_and_dropped).prog [102]) (H := C64.hk) (ob := C64.ob) (M := 9000) (loose := C64.loose) (d := HandSHeadRun.topDef (OpenLaw.row PySem.Challenge.rw_localblocks_k64_versions_put_and_dropped).prog 102) (kwd := []) C64.ob_eq
    (by kernel_rfl) (fun s => by kernel_rfl) C64.run (by kernel_rfl) (by kernel_rfl) (by kernel_rfl) (by rfl) (by first | assumption | decide +kernel) (by decide +kernel) ⟨rfl, rfl, rfl, rfl, rfl, by decide +kernel⟩ ?hw ?hc
  case hw => w_witness2
  case hc =>
    refine Loc.Hd.walkY (l := PySem.Challenge.rw_localblocks_k64_versions_put_and_dropped) (n := 63) (k := 32) (N := 5) (x := "script") (D := C64.dfs) (tf := ["law"]) (ex := C64.exB) (sp := fun K cs => C64.spLaw K cs) rfl (by decide) (by kernel_rfl) ⟨rfl, by decide, by decide⟩ ?F
    intro w mg fa h K KX G hmg0 c
    have hmg : mg ("law" : PySem.Str) = some (.ref fa) := by
      have e : (HandSHeadRun.topDef (OpenLaw.row PySem.Challenge.rw_localblocks_k64_versions_put_and_dropped).prog 102).name = ("law" : PySem.Str) := by kernel_rfl
      rw [← e]
      exact hmg0
    exact C64.facts KX G hmg c


