import PyProof.Rows.All
import Wide.All
import OpenK.AllK
import Wide.FinOn
import HandS.ForMost
import HandS.Base
import HandS.Call
import HandS.List
import HandS.Comp
import HandS.Ends
import HandS.Words
import PyProof.ReprRoads
import PyProof.ReprLen
import PyProof.ReprText
import HandS.Wide
import HandS.WideBits
import HandS.Style
import HandS.Zip
import HandS.Flow
import PyProof.Rows.RuleB_pow
import PyProof.FitsInt
import PyProof.Rows.StrJoinMade
import HandS.IsInst
import HandS.TupAny
import HandS.Text
import PyProof.Rows.ReprOcc
import PyProof.FitsReplace
import PyProof.StrLawsRepr
import HandS.Replace
import HandS.Conv
import HandS.Sort
import HandS.Iter
import HandS.TupMul
import KE.GoesMore
import HandS.Rev
import KE.KRevSl
import HandS.Dict
import PyProof.ReprReads
import PyProof.CallFns
import PyProof.Rows.IntBool
import PyProof.CallStr
import PyProof.ReprBulk
import HandS.Exc
import HandS.ExcIs
import HandS.ExcField
import HandS.ExcOwn
import HandS.ExcValue
import KE.KExcIs
import HandS.Lambda
import HandS.EndTab
import HandS.ExcInit
import HandS.WordsExc
import PyProof.LongRange
import PySem.Challenge.RW_localblocks_k25_far_elements
set_option Elab.async false
set_option linter.all false
set_option maxRecDepth 100000
namespace Loc
open PySem PySem.Spec PyProof.Rows L2
/-! ### defs that are entered while no repr is under way -/
/-- as FnOk, for such an entry alone -/
structure FnG (P : Program) (w : World) (K : PySem.W.Frag) (mg : Str → Option Value) (base : Heap) (CX : CXT)
    (k : Nat) (f : Addr) (fd : FuncData) (ps : List Str) (sp : Sp) : Prop where
  cnt : ∀ {vs H Q E}, sp vs H Q E → vs.length = ps.length
  go : ∀ {A : Around} {out : List Env} {s : Shared} {H : Hp} {ar : Args} {us : List Value} {vs : List V} {Q : VK} {E : XK},
    A.guards = some [] → Room k A → Env0 P w K mg base A out s H → BindsTo s fd ar (ps.zip us) → Vals vs us → sp vs H Q E →
    codeAny (model P w) A (.call (.ref f) ar) (CR CX out P w H s Q E) s
section
variable {P : Program} {w : World} {K : PySem.W.Frag} {mg : Str → Option Value} {base : Heap} {CX : CXT} {k : Nat} {f : Addr} {fd : FuncData} {ps : List Str} {sp : Sp}
theorem FnG.of (F : FnOk P w K mg base CX k f fd ps sp) : FnG P w K mg base CX k f fd ps sp :=
  ⟨fun h => F.len _ _ _ _ h, fun _ hr he hb hv hs => F.run _ _ _ _ _ _ _ _ _ hr he hb hv hs⟩
theorem FnG.up {j : Nat} (F : FnG P w K mg base CX j f fd ps sp) (h : j ≤ k) : FnG P w K mg base CX k f fd ps sp :=
  ⟨F.cnt, fun g hr he hb hv hs => F.go g (hr.mono h) he hb hv hs⟩
/-- a def by its body, entered while no repr is under way -/
theorem fun_okG {x qual : Str} {st : Stmt} {N : List Str} (F : Fun K x qual st f fd) (S : FnScope N ps (defScope st)) (len : ∀ vs H Q E, sp vs H Q E → vs.length = ps.length)
    (hb : ∀ (cdv : Value) (A : Around) (out : List Env) (s : Shared) (H : Hp) (vs : List V) (Q : VK) (E : XK), A.guards = some [] →
      Room k (A.deeper (envOfC qual (defScope st) s.heap.objs.size f cdv)) → sp vs H Q E →
      ∃ t, PSs (cxOf CX P w K mg base N qual (defScope st) f cdv A out s H E).nox (defBody st) t ∧ t { nx := fun _ H' => Q .non H', rt := Q } (start N vs) H) :
    FnG P w K mg base CX (k + 1) f fd ps sp := by
  refine ⟨fun h => len _ _ _ _ h, fun {A out s H ar us vs Q E} hg hr e0 hbd r hsp => ?_⟩
  obtain ⟨oc, od, kV, doc, pm, an, cdv, ct, osl, rfl, lk, hcd⟩ := F.ex
  obtain ⟨t, ht, hq⟩ := hb cdv A out s H vs Q E hg (hr.deeper _) hsp
  have KX : K.In s.heap := e0.mod.kin.keeps fun b o e => (e0.bs b o e).1
  have lim : s.heap.NoLimit := e0.mod.nolimit.keeps fun b o e => (e0.bs b o e).1
  have kinds : ∀ y ∈ ps.zip us, (defScope st).names.lookup y.1 = some .local ∨ ((defScope st).names.lookup y.1 = some .cell ∧
      ((cellsFrom (s.heap.objs.size + 1) (defScope st).names []).lookup y.1).isSome = true) := by
    rintro ⟨n, v⟩ hy
    exact (S.par n (List.of_mem_zip hy).1).elim .inl fun q => .inr ⟨q, PySem.W.cellsFrom_some _ _ _ (.inl q)⟩
  refine codeAny_call_function hr.depth (KX _ _ lk) rfl S.co S.gen rfl (PySem.W.codeRec_of KX hcd) (hbd _ _ _ _ ?_)
  refine wpAny_newFunctionEnv_cells S.kind kinds fun env he s1 x => ?_
  subst he
  refine ⟨lim.keeps x.toInCall.keep, codeAny_func ?_⟩
  have I := inv_start (CX := CX) (E := E) (P := P) (w := w) S hr.hd e0 (len _ _ _ _ hsp) r x
  refine wpAny_mono (ht.nox.run [] s1 (start N vs) H _ I hq) (fun fl s' hs => ?_) fun _ _ hs => hs
  cases fl with
  | ret u => exact let ⟨v, σ', H', J, rv, q⟩ := hs; ⟨v, H', J.os, J.bare, J.base, J.hok, rv, q⟩
  | next => exact let ⟨σ', H', J, q⟩ := hs; ⟨V.non, H', J.os, J.bare, J.base, J.hok, rfl, q⟩
  | brk => exact let ⟨_, _, _, q⟩ := hs; q.elim
  | cont => exact let ⟨_, _, _, q⟩ := hs; q.elim
end
/-! ### repr of nested data -/
/-- repr(v), v nested data (no dict) that a heap bears -/
def rRep (K : PySem.W.Frag) : List V → Hp → VK → Prop := fun xs H Q => ∃ a d, xs = [.ref a] ∧ Dp K H (.ref a) d ∧
  d.showable = true ∧ d.hasDict = false ∧ d.depth ≤ 62 ∧ d.shown.length ≤ sizeLine ∧ Q (.str d.shown) H
theorem call_rep {X : Cx} {k : Nat} (hr : Room k X.A) (hg : X.A.guards = some []) : CallR X (.builtin "repr") (rRep X.K) := by
  intro pins s σ H xs us Q I r h
  obtain ⟨a, d, rfl, hd, h1, h2, h3, h4, q⟩ := h
  obtain ⟨u, rfl, ru⟩ := vals1 r
  cases ru
  obtain ⟨as, rd⟩ := Dp.reads I d _ _ hd rfl
  have hu := hr.units
  exact repr_of_reads' rd h1 (PyData.noDict_hsm h2) hg (by omega) (fun _ _ e => e) (fun h' u tk hk => ⟨.str d.shown, H, I.kept hk, ⟨u, rfl⟩, q⟩) h4
/-! ### nested data that a heap bears -/
theorem DpAll.ints {K : PySem.W.Frag} {H : Hp} : ∀ ns : List Int, DpAll K H (ns.map V.int) (ns.map PyData.int)
  | [] => .nil
  | n :: r => .cons (.int n) (DpAll.ints r)
mutual
theorem Dp.same {K : PySem.W.Frag} {H H' : Hp} (e : ∀ a, (∀ xs, SqL K H a xs → SqL K H' a xs) ∧ ∀ xs, SqT K H a xs → SqT K H' a xs) : ∀ {v : V} {d : PyData}, Dp K H v d → Dp K H' v d
  | _, _, .non => .non
  | _, _, .bl b => .bl b
  | _, _, .int i => .int i
  | _, _, .str x => .str x
  | _, _, .lst h t => .lst ((e _).1 _ h) (DpAll.same e t)
  | _, _, .tup h t => .tup ((e _).2 _ h) (DpAll.same e t)
theorem DpAll.same {K : PySem.W.Frag} {H H' : Hp} (e : ∀ a, (∀ xs, SqL K H a xs → SqL K H' a xs) ∧ ∀ xs, SqT K H a xs → SqT K H' a xs) : ∀ {vs : List V} {ds : List PyData}, DpAll K H vs ds → DpAll K H' vs ds
  | _, _, .nil => .nil
  | _, _, .cons h t => .cons (Dp.same e h) (DpAll.same e t)
end
end Loc

set_option Elab.async false
set_option linter.all false
set_option maxRecDepth 100000
namespace Loc
open PySem PySem.Spec PyProof.Rows L2
/-- the law's call, its def entered while no repr is under way -/
theorem callG {P : Program} {w : World} {K : PySem.W.Frag} {mg mb : Str → Option Value} {k : Nat} {fa a : Addr} {fd : FuncData} {x : Str} {sp : Sp} {s : Shared} {vs : List Value} {ns : List Int}
    (KX : K.In s.heap) (g1 : s.heap.Ns mainGlobals mg) (g2 : s.heap.Ns builtinsNs mb) (g3 : ∀ x : Str, x ≠ "__name__" → mb x = bootBuiltins x) (lim : s.heap.NoLimit) (gs : s.gens = #[])
    (ha : s.heap.get? a = some { cls := .type "list", data := .seq vs.toArray }) (hi : IntsAre vs ns) (hl : ns.length ≤ sizeLine) (hr : Room k callerA)
    (F : ∀ base : Heap, K.In base → base.Ns mainGlobals mg → FnG P w K mg base CX0 k fa fd [x] sp) (hb : ∀ (s : Shared) (u : Value), BindsTo s fd ⟨[u], []⟩ [(x, u)])
    (hsp : ∀ H : Hp, SqL K H a (ns.map V.int) → sp [.ref a] H (fun v _ => v = .bl true) fun _ _ _ => False) :
    codeAny (model P w) callerA (.call (.ref fa) ⟨[.ref a], []⟩) (fun r s' => r = .ok (.ret (.bool true)) ∧ OldK s.heap s'.heap ∧ s'.os = s.os ∧ AllBare s'.gens) s := by
  have rv := vals_ints hi
  have ln := hi.length
  -- H tracks at most the script, and that only where the module has not written it
  have main : ∀ H : Hp, (∀ b, H b = none ∨ (b = a ∧ K.lookup a = none ∧ ∃ o xs, H b = some (.frz o (.lst xs)))) → SqL K H a (ns.map V.int) → HOk P w H s.heap →
      codeAny (model P w) callerA (.call (.ref fa) ⟨[.ref a], []⟩) (fun r s' => r = .ok (.ret (.bool true)) ∧ OldK s.heap s'.heap ∧ s'.os = s.os ∧ AllBare s'.gens) s := by
    intro H only sq hok
    have nsOf : ∀ {b : Addr} {m : Str → Option Value}, s.heap.Ns b m → (hidT s.heap H).Ns b m := by
      rintro b m ⟨o, es, ep, e, d, r⟩
      refine ⟨o, es, ep, hidT_get e ?_, d, r⟩
      rcases only b with z | ⟨rfl, _, _⟩
      · exact z
      · rw [ha] at e
        cases e
        exact Data.noConfusion d
    have kb : K.In (hidT s.heap H) := fun b o e => hidT_get (KX b o e) (by
      rcases only b with z | ⟨rfl, z, _⟩
      · exact z
      · rw [z] at e
        cases e)
    obtain ⟨mc, l1, l2⟩ := lim
    have e0 : Env0 P w K mg (hidT s.heap H) callerA [] s H :=
      { frames := rfl, mod := ⟨kb, nsOf g1, ⟨mb, nsOf g2, g3⟩, ⟨mc, nsOf l1, l2⟩⟩, bs := fun _ _ e => of_hidT e, bsz := Nat.le_of_eq (hidT_size _ _), funs := trivial,
        frf := fun b hb => absurd (show b ∈ ([] : List Addr) from hb) List.not_mem_nil, hok := hok, bare := .of_eq gs }
    refine codeAny_mono ((F _ kb (nsOf g1)).go (us := [.ref a]) (vs := [.ref a]) rfl hr e0 (hb s (.ref a)) (.cons rfl .nil) (hsp H sq)) fun r s' h => ?_
    match r, h with
    | .error e, h => exact h.elim
    | .ok .next, h => exact h.elim
    | .ok .brk, h => exact h.elim
    | .ok .cont, h => exact h.elim
    | .ok (.ret u), ⟨v, H', os, bare, un, hok', rel, q⟩ =>
      have q' : v = .bl true := q
      subst q'
      have ru : u = Value.bool true := rel
      subst ru
      refine ⟨rfl, OldK.of_keep fun b o e => ?_, os, bare⟩
      rcases only b with z | ⟨_, _, ob, xs, z⟩
      · exact un.keep b o e z (fun m => absurd (show b ∈ ([] : List Addr) from m) List.not_mem_nil) List.not_mem_nil
      · have o1 := (hok b _ z).1
        have o2 := (hok' b _ (un.frzs b ob _ z)).1
        rw [e] at o1
        cases o1
        exact o2
  cases hk : K.lookup a with
  | some o =>
    have e := KX a o hk
    rw [ha] at e
    cases e
    refine main (fun _ => none) (fun _ => .inl rfl) (.inr ⟨_, vs.toArray, _, hk, rfl, rfl, rfl, ?_, by simpa using rv⟩) fun b u z => nomatch (show (none : Option HO) = some u from z)
    rw [List.size_toArray, ln]
    exact hl
  | none =>
    refine main (fun b => if b = a then some (.frz { cls := .type "list", data := .seq vs.toArray } (.lst (ns.map V.int))) else none) (fun b => ?_) (.inl (.inr ⟨_, if_pos rfl⟩)) fun b u z => ?_
    · by_cases e : b = a
      · exact .inr ⟨e, hk, _, _, if_pos e⟩
      · exact .inl (if_neg e)
    · by_cases e : b = a
      · have z' := (if_pos e).symm.trans z
        cases z'
        rw [e]
        exact ⟨ha, by rw [List.length_map]; exact hl, vs, _, rv, ha⟩
      · have z' := (if_neg e).symm.trans z
        cases z'
/-- the goal that k_head leaves, from such a promise of the law's def -/
theorem walkG {l : PySem.W.OpenLaw} {n k : Nat} {q : Program} {loose : List Str} {XP : (Str → Option Value) → Heap → Prop} {YP : World → Heap → Prop} {d : DefRec} {K : Params → PySem.W.Frag} {sp : PySem.W.Frag → Sp} {x : Str}
    (hn : l.most = some n) (hz : n ≤ sizeLine) (hd : d.params.defaults = []) (hr : Room k callerA) (hY : ∀ (w : World) (h : Heap), YP w h → (K w.params).In h)
    (F : ∀ (w : World) (mg : Str → Option Value) (fa : Addr) (h : Heap), (K w.params).In h → h.Ns mainGlobals mg → mg d.name = some (.ref fa) →
      ∃ fd : FuncData, (∀ (s : Shared) (u : Value), BindsTo s fd ⟨[u], []⟩ [(x, u)]) ∧
        ∀ base : Heap, (K w.params).In base → base.Ns mainGlobals mg → FnG l.prog w (K w.params) mg base CX0 k fa fd [x] (sp (K w.params)))
    (hsp : ∀ (K : PySem.W.Frag) (H : Hp) (a : Addr) (ns : List Int), ns.length ≤ n → SqL K H a (ns.map V.int) → sp K [.ref a] H (fun v _ => v = .bl true) fun _ _ _ => False) :
    PySem.W.WalkO q loose XP YP l.row.toRowW d [] (fun f vs => PySem.call f vs) := by
  refine Att.attach_call hn hd fun w s0 s1 mg mb fa o pm cd doc a vs ns G Y ho hd' hcd hmg hobj hints hlen hg => ?_
  obtain ⟨fd, hb, hF⟩ := F w mg fa _ (hY w _ Y) G.T.g hmg
  exact callG (hY w _ Y) G.T.g G.T.b G.T.builtins G.T.nolimit hg hobj hints (Nat.le_trans hlen hz) hr hF hb fun H hS => hsp _ H a ns hlen hS
end Loc

set_option Elab.async false
set_option linter.all false
set_option maxRecDepth 100000
/-! ### the heap but for one object -/
namespace Loc
open PySem PySem.Spec PyProof.Rows L2
/-- all but what stands at p is as it was -/
def But (p : Addr) (H H' : Hp) : Prop := ∀ b o, b ≠ p → H b = some o → H' b = some o
theorem But.refl (p : Addr) (H : Hp) : But p H H := fun _ _ _ h => h
theorem But.trans {p : Addr} {H H1 H2 : Hp} (a : But p H H1) (b : But p H1 H2) : But p H H2 := fun c o n h => b c o n (a c o n h)
theorem But.set {p : Addr} {H : Hp} {o : HO} : But p H (upd H p o) := fun b _ n h => by rw [upd_ne n]; exact h
theorem But.new {p q : Addr} {H : Hp} {o : HO} (h : H q = none) : But p H (upd H q o) := fun b _ _ e => by rw [upd_ne (ne_of_none e h)]; exact e
theorem But.at {p b : Addr} {H H' : Hp} {o : HO} (e : But p H H') (n : b ≠ p) (h : H b = some o) : H' b = some o := e b o n h
theorem But.sql {p a : Addr} {K : PySem.W.Frag} {H H' : Hp} {xs : List V} (e : But p H H') (n : a ≠ p) (h : SqL K H a xs) : SqL K H' a xs := by
  rcases h with (h | ⟨o, h⟩) | h
  · exact .inl (.inl (e _ _ n h))
  · exact .inl (.inr ⟨o, e _ _ n h⟩)
  · exact .inr h
/-- a tuple is no list -/
theorem But.sqt {p a : Addr} {K : PySem.W.Frag} {H H' : Hp} {xs ys : List V} (e : But p H H') (hp : H p = some (.lst ys)) (h : SqT K H a xs) : SqT K H' a xs := by
  rcases h with (h | ⟨o, h⟩) | h
  · exact .inl (.inl (e _ _ (ne_of h hp (by intro z; cases z)) h))
  · exact .inl (.inr ⟨o, e _ _ (ne_of h hp (by intro z; cases z)) h⟩)
  · exact .inr h
/-! ### the pot that the law draws from -/
/-- a pot's three numbers, drawn from at most c times -/
def PotO (o : HO) (c : Nat) : Prop := ∃ own mix cnt : Int, o = .lst [.int own, .int mix, .int cnt] ∧ 0 ≤ own ∧ own < 2 ^ 1000 ∧ 0 ≤ mix ∧ mix < 2305843009213693952 ∧ 0 ≤ cnt ∧ cnt ≤ c
def Pot (H : Hp) (p : Addr) (c : Nat) : Prop := ∃ o, H p = some o ∧ PotO o c
theorem PotO.le {o : HO} {c d : Nat} (h : PotO o c) (l : c ≤ d) : PotO o d := by
  obtain ⟨a, b, e, h1, h2, h3, h4, h5, h6, h7⟩ := h
  exact ⟨a, b, e, h1, h2, h3, h4, h5, h6, by omega⟩
theorem Pot.le {H : Hp} {p : Addr} {c d : Nat} (h : Pot H p c) (l : c ≤ d) : Pot H p d := let ⟨o, e, q⟩ := h; ⟨o, e, q.le l⟩
theorem Pot.ls {H : Hp} {p : Addr} {c : Nat} (h : Pot H p c) : ∃ ys, H p = some (.lst ys) := by
  obtain ⟨o, e, a, b, z, rfl, _⟩ := h
  exact ⟨_, e⟩
theorem Pot.new {H : Hp} {p q : Addr} {c : Nat} {o : HO} (h : Pot H p c) (n : H q = none) : Pot (upd H q o) p c := by
  obtain ⟨x, e, r⟩ := h
  exact ⟨x, by rw [upd_ne (ne_of_none e n)]; exact e, r⟩
theorem Pot.oth {H : Hp} {p q : Addr} {c : Nat} {o : HO} (h : Pot H p c) (n : p ≠ q) : Pot (upd H q o) p c := by
  obtain ⟨x, e, r⟩ := h
  exact ⟨x, by rw [upd_ne n]; exact e, r⟩
theorem Pot.put {H : Hp} {p : Addr} {c : Nat} {o : HO} (h : PotO o c) : Pot (upd H p o) p c := ⟨o, upd_same, h⟩

/-- script: the script; k: a small number -/
def spPot (K : PySem.W.Frag) : Sp := fun vs H Q _ => ∃ (a : Addr) (ns : List Int) (k : Nat), vs = [.ref a, .int k] ∧ SqL K H a (ns.map V.int) ∧ ns.length ≤ 1000 ∧ k ≤ 1000 ∧
  ∀ p o, H p = none → PotO o 0 → Q (.ref p) (upd H p o)
def spTake : Sp := fun vs H Q _ => ∃ (p : Addr) (b : Int) (c : Nat), vs = [.ref p, .int b] ∧ Pot H p c ∧ c < 1000000 ∧ 0 < b ∧ b < 2 ^ 1000 ∧
  ∀ (d : Int) H', 0 ≤ d → d < b → But p H H' → Pot H' p (c + 1) → Q (.int d) H'
def spOf : Sp := fun vs H Q _ => ∃ (p a : Addr) (xs : List V) (c : Nat), vs = [.ref p, .ref a] ∧ Pot H p c ∧ c < 1000000 ∧ a ≠ p ∧ H a = some (.lst xs) ∧ xs ≠ [] ∧ xs.length ≤ 1000 ∧
  ∀ (j : Nat) (x : V) H', xs[j]? = some x → But p H H' → Pot H' p (c + 1) → Q x H'

/-- ** of a great number -/
def CPowW (i j : Int) : Prop := 0 ≤ j ∧ (Builtin.Int.intBits i : Int) * j ≤ 2 ^ 27
theorem op_powW {X : Cx} : OpR X (binaryOp .Pow) (rI CPowW fun i j => .int (i ^ j.toNat)) := opI fun _ _ _ _ _ _ _ hc q => pow_int hc.1 hc.2 q
theorem pow60 : CPowW ((10 : Int) ^ (60 : Int).toNat) 5 := ⟨by decide, by decide +kernel⟩
theorem small_line {n : Nat} (h : n ≤ 100000) : n ≤ sizeLine := Nat.le_trans h (by decide)
theorem small_line' {n : Nat} (h : n ≤ 100000) : n < sizeLine := Nat.lt_of_le_of_lt h (by decide)
end Loc
namespace Loc
open PySem PySem.Spec PyProof.Rows L2
/-- two ways that meet in what S says of the value -/
theorem joinIf {b : Bool} {ta tb : TE} {σ : L2.St} {H : Hp} {Q : VK} (S : VK) (key : ∀ v H', S v H' → Q v H') (h1 : b = true → ∀ R : VK, (∀ v H', S v H' → R v H') → ta σ H R)
    (h2 : b = false → ∀ R : VK, (∀ v H', S v H' → R v H') → tb σ H R) : if b = true then ta σ H Q else tb σ H Q := by
  cases b
  · rw [if_neg Bool.false_ne_true]
    exact h2 rfl Q key
  · rw [if_pos rfl]
    exact h1 rfl Q key
theorem mod_pos {a m : Int} (h : 0 < m) : 0 ≤ a % m ∧ a % m < m := ⟨Int.emod_nonneg _ (by omega), Int.emod_lt_of_pos _ h⟩
theorem pow300 : ((10 : Int) ^ (60 : Int).toNat) ^ (5 : Int).toNat < 2 ^ 1000 := by decide +kernel
theorem pow300' : 0 < ((10 : Int) ^ (60 : Int).toNat) ^ (5 : Int).toNat := by decide +kernel
end Loc
namespace Loc
theorem bit_small (b : Bool) : -(2 ^ 64) < (if b = true then (1 : Int) else 0) ∧ (if b = true then (1 : Int) else 0) < 2 ^ 64 := by
  cases b <;> decide
theorem mul_bit {a m : Int} (h : 0 ≤ a ∧ a < m) (b : Bool) : 0 ≤ a * (if b = true then (1 : Int) else 0) ∧ a * (if b = true then (1 : Int) else 0) < m := by
  cases b
  · rw [if_neg Bool.false_ne_true, Int.mul_zero]
    omega
  · rw [if_pos rfl, Int.mul_one]
    exact h
end Loc
namespace Loc
theorem natAbs_lt {b : Int} {n : Nat} (h0 : 0 ≤ b) (h : b < 2 ^ n) : b.natAbs < 2 ^ n := by
  obtain ⟨m, rfl⟩ := Int.eq_ofNat_of_zero_le h0
  rw [← PySem.W.kbt_cast n] at h
  exact Int.ofNat_lt.mp h
theorem div_small {a b : Int} (h0 : 0 ≤ a) (h : 0 < b) : 0 ≤ a / b ∧ a / b ≤ a := ⟨Int.ediv_nonneg h0 (by omega), Int.ediv_le_self b h0⟩
/-- the five numbers that a draw is reckoned with -/
theorem prime_at {n : Int} (h : 0 ≤ n) : ∃ q : Int, L2.atI [L2.V.int 2147483647, .int 2147483629, .int 2147483587, .int 2147483579, .int 2147483563] (n % 5) = some (.int q) ∧ 0 < q ∧ q < 2147483648 := by
  have m := Int.emod_nonneg n (show (5 : Int) ≠ 0 by decide)
  have l := Int.emod_lt_of_pos n (show (0 : Int) < 5 by decide)
  generalize n % 5 = r at m l
  have c : r = 0 ∨ r = 1 ∨ r = 2 ∨ r = 3 ∨ r = 4 := by omega
  rcases c with rfl | rfl | rfl | rfl | rfl
  · exact ⟨2147483647, rfl, by decide, by decide⟩
  · exact ⟨2147483629, rfl, by decide, by decide⟩
  · exact ⟨2147483587, rfl, by decide, by decide⟩
  · exact ⟨2147483579, rfl, by decide, by decide⟩
  · exact ⟨2147483563, rfl, by decide, by decide⟩
/-- what stands under the third power -/
theorem base_small {mix c : Int} (h3 : 0 ≤ mix) (h4 : mix < 2305843009213693952) (h5 : 0 ≤ c) (h6 : c ≤ 1000000) : 0 ≤ mix + 99991 * c * c + 29 ∧ mix + 99991 * c * c + 29 < 2 ^ 64 := by
  have k1 : 0 ≤ c * c := Int.mul_nonneg h5 h5
  have k2 : c * c ≤ 1000000 * 1000000 := Int.mul_le_mul h6 h6 h5 (by decide)
  rw [Int.mul_assoc]
  omega
end Loc
namespace Loc
theorem small_pow {n : Nat} (h : n ≤ 1000) : (n : Int) < 2 ^ 1000 := Int.lt_of_le_of_lt (show (n : Int) ≤ 1000 by omega) (by decide +kernel)
end Loc
namespace Loc
open PySem PySem.Spec PyProof.Rows L2
theorem sameT {K : PySem.W.Frag} {H H' : Hp} {a : Addr} {xs : List V} (e : Same H H') (h : SqT K H a xs) : SqT K H' a xs := by
  rcases h with (h | ⟨o, h⟩) | h
  · exact .inl (.inl (e _ _ h))
  · exact .inl (.inr ⟨o, e _ _ h⟩)
  · exact .inr h
theorem sameN {H : Hp} {p : Addr} {o : HO} (h : H p = none) : Same H (upd H p o) := fun b x e => by rw [upd_ne (ne_of_none e h)]; exact e
/-- a new object is written again -/
theorem sameW {H H' : Hp} {p : Addr} {o : HO} (e : Same H H') (h : H p = none) : Same H (upd H' p o) := fun b x q => by rw [upd_ne (ne_of_none q h)]; exact e b x q
theorem Same.but {H H' : Hp} {p : Addr} (e : Same H H') : But p H H' := fun b o _ h => e b o h
theorem But.same {H H' : Hp} {p : Addr} (e : But p H H') (h : H p = none) : Same H H' := fun b o q => e b o (ne_of_none q h) q
/-- a new object is written again -/
theorem But.wr {p q : Addr} {H H' : Hp} {o : HO} (e : But p H H') (h : H q = none) : But p H (upd H' q o) := fun b x n r => by rw [upd_ne (ne_of_none r h)]; exact e b x n r
theorem small_take {α : Type} {l : List α} {i n : Nat} (h : l.length ≤ n) : (l.take i).length ≤ n := by
  rw [List.length_take]
  omega
theorem line5 {n : Nat} (h : n ≤ 100000) : n < sizeLine := small_line' h
end Loc
namespace Loc
open PySem PySem.Spec PyProof.Rows L2
/-- a list or a tuple -/
def SqA (K : PySem.W.Frag) (H : Hp) (a : Addr) (xs : List V) : Prop := SqL K H a xs ∨ SqT K H a xs
theorem SqA.same {K : PySem.W.Frag} {H H' : Hp} {a : Addr} {xs : List V} (h : SqA K H a xs) (e : Same H H') : SqA K H' a xs := h.imp e.seq (sameT e)
theorem SqA.ix {K : PySem.W.Frag} {H : Hp} {a : Addr} {xs : List V} {i : Int} {v : V} {Q : VK} (h : SqA K H a xs) (e : atI xs i = some v) (q : Q v H) : rIx K (.ref a) (.int i) H Q := by
  rcases h with h | h
  · exact .inl ⟨a, xs, i, v, rfl, rfl, h, e, q⟩
  · exact .inr (.inl ⟨a, xs, i, v, rfl, rfl, h, e, q⟩)
theorem half_pow (x t : Nat) : ((x / 2 ^ t : Nat) : Int) / 2 = ((x / 2 ^ (t + 1) : Nat) : Int) := by
  rw [Nat.pow_succ, ← Nat.div_div_eq_div_mul]
  omega
end Loc
namespace Loc
theorem get_of {α : Type} {l : List α} {i : Nat} (h : i < l.length) : ∃ x, l[i]? = some x := ⟨l[i], List.getElem?_eq_getElem h⟩
end Loc
namespace Loc
theorem take_more {α : Type} {l : List α} {i : Nat} {x : α} (h : l[i]? = some x) : l.take (i + 1) = l.take i ++ [x] := by
  rw [List.take_add_one, h]
  rfl
theorem int_congr {a b : Int} (h : a = b) : L2.V.int a = L2.V.int b := by rw [h]
end Loc
namespace Loc
open PySem PySem.Spec PyProof.Rows L2
/-- a value that is one of those that S tells -/
theorem anyE {te : TE} {σ : L2.St} {H : Hp} {Q : VK} (S : VK) (key : ∀ v H', S v H' → Q v H') (h : ∀ R : VK, (∀ v H', S v H' → R v H') → te σ H R) : te σ H Q := h Q key
theorem anyT {t : TT} {σ : L2.St} {H : Hp} {Q : Bool → Hp → Prop} (S : Bool → Hp → Prop) (key : ∀ b H', S b H' → Q b H') (h : ∀ R : Bool → Hp → Prop, (∀ b H', S b H' → R b H') → t σ H R) : t σ H Q := h Q key
theorem joinS {b : Bool} {t u : TS} {D : Ends} {σ : L2.St} {H : Hp} (S : L2.St → Hp → Prop) (key : ∀ σ' H', S σ' H' → D.nx σ' H')
    (h1 : b = true → ∀ N : L2.St → Hp → Prop, (∀ σ' H', S σ' H' → N σ' H') → t { D with nx := N } σ H)
    (h2 : b = false → ∀ N : L2.St → Hp → Prop, (∀ σ' H', S σ' H' → N σ' H') → u { D with nx := N } σ H) : if b = true then t D σ H else u D σ H := by
  cases b
  · rw [if_neg Bool.false_ne_true]
    exact h2 rfl D.nx key
  · rw [if_pos rfl]
    exact h1 rfl D.nx key
theorem But.free {p q : Addr} {H H' : Hp} {o : HO} (e : But p H H') (hp : H' p = some o) (h : H' q = none) : H q = none := by
  cases z : H q with
  | none => rfl
  | some x =>
    have n : q ≠ p := fun k => by rw [k, hp] at h; cases h
    rw [e q x n z] at h
    cases h
theorem Pot.ex {H : Hp} {p : Addr} {c : Nat} (h : Pot H p c) : ∃ o, H p = some o := let ⟨o, e, _⟩ := h; ⟨o, e⟩
theorem But.freeP {p q : Addr} {H H' : Hp} {c : Nat} (e : But p H H') (hp : Pot H' p c) (h : H' q = none) : H q = none := let ⟨_, k⟩ := hp.ex; e.free k h
theorem Pot.ne {H : Hp} {p q : Addr} {c : Nat} (hp : Pot H p c) (h : H q = none) : q ≠ p := fun z => by
  obtain ⟨o, e⟩ := hp.ex
  rw [z, e] at h
  cases h
/-! lists of ints as data -/
theorem canLay_ints : ∀ ns : List Int, PyData.canLayAll0 (ns.map PyData.int) = true
  | [] => rfl
  | n :: r => by
    show (PyData.canLay0 (.int n) && PyData.canLayAll0 (r.map PyData.int)) = true
    rw [canLay_ints r]
    rfl
theorem depth_ints : ∀ ns : List Int, PyData.depthAll (ns.map PyData.int) ≤ 1
  | [] => by simp [PyData.depthAll]
  | n :: r => by
    have := depth_ints r
    simp only [List.map_cons, PyData.depthAll, PyData.depth]
    omega
theorem shaped_ints (ns : List Int) : SeqAt.shaped (.list (ns.map PyData.int)) = true ∧ SeqAt.shaped (.tuple (ns.map PyData.int)) = true := by
  have d := depth_ints ns
  constructor
  · unfold SeqAt.shaped
    rw [Bool.and_eq_true]
    exact ⟨by simpa [PyData.canLay0] using canLay_ints ns, decide_eq_true (by simp only [PyData.depth]; omega)⟩
  · unfold SeqAt.shaped
    rw [Bool.and_eq_true]
    exact ⟨by simpa [PyData.canLay0] using canLay_ints ns, decide_eq_true (by simp only [PyData.depth]; omega)⟩
/-- xs == [], xs of ints -/
theorem eqv_empty (ns : List Int) : PyData.eqv (.list (ns.map PyData.int)) (.list []) = ns.isEmpty := by
  cases ns <;> simp [PyData.eqv, PyData.eqvAll]
theorem eqv_emptyT (ns : List Int) : PyData.eqv (.tuple (ns.map PyData.int)) (.tuple []) = ns.isEmpty := by
  cases ns <;> simp [PyData.eqv, PyData.eqvAll]
end Loc
namespace Loc
theorem pow_of {d : Int} {n : Nat} (h0 : 0 ≤ d) (h : d ≤ n) : ∃ m : Nat, (1 : Int) * 2 ^ d.toNat = (m : Int) ∧ 0 < m ∧ m ≤ 2 ^ n := by
  refine ⟨2 ^ d.toNat, ?_, Nat.two_pow_pos _, Nat.pow_le_pow_right (by decide) (by omega)⟩
  rw [Int.one_mul, PySem.W.kbt_cast]
end Loc
namespace Loc
open PySem PySem.Spec PyProof.Rows L2
theorem cb1_any {r : List V → Hp → VK → Prop} {te : TE} {σ : L2.St} {H : Hp} {Q : VK} (S : VK) (key : ∀ v H', S v H' → r [v] H' Q) (h : ∀ R : VK, (∀ v H', S v H' → R v H') → te σ H R) : tCB r (tCons te tNil) σ H Q := h _ key
theorem cons_any {te : TE} {tr : TA} {σ : L2.St} {H : Hp} {Q : List V → Hp → Prop} (S : VK) (key : ∀ v H', S v H' → tr σ H' fun vs H2 => Q (v :: vs) H2) (h : ∀ R : VK, (∀ v H', S v H' → R v H') → te σ H R) : tCons te tr σ H Q := h _ key
theorem if_any {T : TT} {ta tb : TE} {σ : L2.St} {H : Hp} {Q : VK} (S : Bool → Hp → Prop) (key : ∀ b H', S b H' → if b = true then ta σ H' Q else tb σ H' Q) (h : ∀ R : Bool → Hp → Prop, (∀ b H', S b H' → R b H') → T σ H R) : tIf T ta tb σ H Q := h _ key
theorem ifs_any {T : TT} {t u : TS} {D : Ends} {σ : L2.St} {H : Hp} (S : Bool → Hp → Prop) (key : ∀ b H', S b H' → if b = true then t D σ H' else u D σ H') (h : ∀ R : Bool → Hp → Prop, (∀ b H', S b H' → R b H') → T σ H R) : tIfS T t u D σ H := h _ key
end Loc
namespace Loc
open PySem PySem.Spec PyProof.Rows L2
theorem cb1_var {r : List V → Hp → VK → Prop} {i : Nat} {σ : L2.St} {H : Hp} {Q : VK} (v : V) (h : σ[i]? = some (some v)) (k : r [v] H Q) : tCB r (tCons (tVar i) tNil) σ H Q := ⟨v, h, k⟩
end Loc

set_option Elab.async false
set_option linter.all false
set_option maxRecDepth 100000
namespace Loc
open PySem PySem.Spec PyProof.Rows L2 RZ
/-! ### repr of a tuple of ints -/
theorem shown_len {n : Nat} (h : n < 10 ^ 70) : (PyData.shown (.int (n : Int))).length ≤ 70 := by
  rw [PyData.shown_int]
  refine toString_length_le (Int.natCast_nonneg _) (by decide) ?_
  have := Int.ofNat_lt.mpr h
  exact Int.lt_of_lt_of_le this (by decide +kernel)
theorem shown_sum : ∀ ns : List Nat, (∀ n ∈ ns, n < 10 ^ 70) → ((PyData.shownAll ((ns.map fun n : Nat => (n : Int)).map PyData.int)).map (·.length)).sum ≤ 70 * ns.length
  | [], _ => by simp [PyData.shownAll]
  | n :: r, h => by
    have h1 := shown_len (h n List.mem_cons_self)
    have h2 := shown_sum r fun m hm => h m (List.mem_cons_of_mem _ hm)
    simp only [List.map_cons, PyData.shownAll, List.sum_cons, List.length_cons]
    omega
theorem log_small {n : Nat} (h : n < 10 ^ 70) : ((n : Int)).natAbs.log2 < 1920 := by
  rw [Int.natAbs_natCast]
  by_cases z : n = 0
  · subst z
    decide
  · exact (Nat.log2_lt z).mpr (Nat.lt_trans h (by decide +kernel))
theorem noDict_ints : ∀ ns : List Int, PyData.hasDictAll (ns.map PyData.int) = false
  | [] => by simp [PyData.hasDictAll]
  | n :: r => by simp [PyData.hasDictAll, PyData.hasDict, noDict_ints r]
/-- what repr asks of a tuple of small numbers -/
theorem rep_ints {K : PySem.W.Frag} {H : Hp} {a : Addr} {ns : List Nat} {Q : VK} (hS : SqT K H a (ns.map fun n : Nat => V.int (n : Int))) (h : ∀ n ∈ ns, n < 10 ^ 70) (hl : ns.length ≤ 100000)
    (q : Q (.str (PyData.shown (.tuple ((ns.map fun n : Nat => (n : Int)).map PyData.int)))) H) : rRep K [.ref a] H Q := by
  have dp := depth_ints (ns.map fun n : Nat => (n : Int))
  have sm := shown_sum ns h
  have e : (ns.map fun n : Nat => V.int (n : Int)) = (ns.map fun n : Nat => (n : Int)).map V.int := by
    rw [List.map_map]
    rfl
  rw [e] at hS
  refine ⟨a, _, rfl, .tup hS (DpAll.ints _), ?_, ?_, ?_, ?_, q⟩
  · show PyData.showableAll _ = true
    refine PyData.showableAll_ints _ fun n hn => ?_
    obtain ⟨m, hm, rfl⟩ := List.mem_map.mp hn
    exact log_small (h m hm)
  · show PyData.hasDictAll _ = false
    exact noDict_ints _
  · simp only [PyData.depth]
    omega
  · show (tupleText _).length ≤ sizeLine
    have t := tupleText_len_le (PyData.shownAll ((ns.map fun n : Nat => (n : Int)).map PyData.int))
    rw [PyData.shownAll_length, List.length_map, List.length_map] at t
    rw [sizeLine_eq]
    omega
/-! ### [.. for x, y in zip(t, u)], t and u tuples -/
theorem lc_zipT {K : PySem.W.Frag} {a b : Addr} {xs ys : List V} {g : TG} {tt : TT} {te : TE} {vs : List Nat} {σ : L2.St} {H1 : Hp} {D : Addr} {Qd : Hp → Prop} (Pv : Nat → Hp → Prop)
    (h0 : Pv 0 (upd H1 D (.lst []))) (hl : ∀ i H, Pv i H → SqT K H a xs ∧ SqT K H b ys)
    (hs : ∀ i x y T H, xs[i]? = some x → ys[i]? = some y → Pv i H → H T = none → g (.ref T) (wipe σ vs) (upd H T (.tup [x, y])) fun σ2 H2 => wipe σ2 vs = wipe σ vs ∧ tt σ2 H2 fun k H3 =>
      if k = true then te σ2 H3 fun z H4 => ∃ acc, H4 D = some (.lst acc) ∧ acc.length < sizeLine ∧ Pv (i + 1) (upd H4 D (.lst (acc ++ [z]))) else Pv (i + 1) H3)
    (hd : ∀ i H, Pv i H → (xs.length ≤ i ∨ ys.length ≤ i) → Qd H) :
    ∃ W : Nat → Nat → Hp → Prop, (∃ m, W 0 m (upd H1 D (.lst []))) ∧ ∀ i m H, W i m H →
      ((ItzT K a b).stop i H ∧ Qd H) ∨ ((ItzT K a b).go i H ∧ ∃ Nx : Hp → Prop, (∀ H', Nx H' → ∃ m', m' < m ∧ W (i + 1) m' H') ∧ ∀ x H', (ItzT K a b).yld i H x H' → g x (wipe σ vs) H' fun σ2 H2 => wipe σ2 vs = wipe σ vs ∧ tt σ2 H2 fun k H3 =>
        if k = true then te σ2 H3 fun y H4 => ∃ acc, H4 D = some (.lst acc) ∧ acc.length < sizeLine ∧ Nx (upd H4 D (.lst (acc ++ [y]))) else Nx H3) := by
  refine ⟨fun i m H => m = xs.length - i ∧ Pv i H, ⟨_, rfl, h0⟩, ?_⟩
  rintro i m H ⟨rfl, p⟩
  obtain ⟨k1, k2⟩ := hl i H p
  by_cases c : i < xs.length ∧ i < ys.length
  · obtain ⟨x, gx⟩ := get_of c.1
    obtain ⟨y, gy⟩ := get_of c.2
    refine .inr ⟨⟨xs, ys, x, y, k1, k2, gx, gy⟩, Pv (i + 1), fun H' p' => ⟨xs.length - (i + 1), by omega, rfl, p'⟩, fun z H' hy => ?_⟩
    obtain ⟨T, x', y', rfl, hT, rfl, f1, f2⟩ := hy
    have ex : x' = x := Option.some.inj ((f1 _ k1).symm.trans gx)
    have ey : y' = y := Option.some.inj ((f2 _ k2).symm.trans gy)
    subst ex
    subst ey
    exact hs i _ _ T H gx gy p hT
  · have c' : xs.length ≤ i ∨ ys.length ≤ i := by omega
    exact .inl ⟨⟨xs, ys, k1, k2, c'⟩, hd i H p c'⟩
end Loc

set_option Elab.async false
set_option linter.all false
set_option maxRecDepth 100000
namespace Loc
open PySem PySem.Spec PyProof.Rows L2
/-! ### nodes -/
inductive Nd where
  | el (n : Nat)
  | run (b : Nd) (c : Nat)
  | blk (ps : List Nd)
mutual
def dat : Nd → PyData
  | .el n => .int n
  | .run b c => .tuple [.str "run", dat b, .int c]
  | .blk ps => .tuple [.str "block", .tuple (datAll ps)]
def datAll : List Nd → List PyData
  | [] => []
  | n :: r => dat n :: datAll r
end
def Nd.isRun : Nd → Bool
  | .run _ _ => true
  | _ => false
def Nd.isBlk : Nd → Bool
  | .blk _ => true
  | _ => false
def Nd.base : Nd → Nd
  | .run b _ => b
  | n => n
/-- neighbours with unlike bases -/
def Unb : List Nd → Prop
  | a :: b :: r => a.base ≠ b.base ∧ Unb (b :: r)
  | _ => True
mutual
/-- a node of this level -/
def Ok : Nd → Nat → Prop
  | .el n, l => l = 0 ∧ n ≤ 10 ^ 9
  | .run b c, l => 2 ≤ c ∧ c ≤ 10 ^ 60 ∧ b.isRun = false ∧ Ok b l
  | .blk ps, l => 1 ≤ l ∧ 2 ≤ ps.length ∧ ps.length ≤ 3 ∧ OkAll ps (l - 1) ∧ Unb ps
def OkAll : List Nd → Nat → Prop
  | [], _ => True
  | n :: r, l => Ok n l ∧ OkAll r l
end
theorem OkAll.mem : ∀ {ps : List Nd} {l : Nat}, OkAll ps l → ∀ n ∈ ps, Ok n l
  | [], _, _, n, h => nomatch h
  | a :: r, l, h, n, hn => by
    unfold OkAll at h
    rcases List.mem_cons.mp hn with rfl | hn
    · exact h.1
    · exact OkAll.mem h.2 n hn
theorem OkAll.of : ∀ {ps : List Nd} {l : Nat}, (∀ n ∈ ps, Ok n l) → OkAll ps l
  | [], _, _ => by unfold OkAll; trivial
  | a :: r, l, h => by
    unfold OkAll
    exact ⟨h a List.mem_cons_self, OkAll.of fun n hn => h n (List.mem_cons_of_mem _ hn)⟩
theorem datAll_map : ∀ ps : List Nd, datAll ps = ps.map dat
  | [] => by unfold datAll; rfl
  | n :: r => by
    unfold datAll
    rw [datAll_map r]
    rfl
theorem datAll_length (ps : List Nd) : (datAll ps).length = ps.length := by rw [datAll_map, List.length_map]
theorem unlike_sorts : (Str.ofString "run" == Str.ofString "block") = false ∧ (Str.ofString "block" == Str.ofString "run") = false := by
  constructor <;> decide +kernel
theorem eqv_rb (x y z : PyData) : PyData.eqv (.tuple [.str "run", x, y]) (.tuple [.str "block", z]) = false := by
  simp only [PyData.eqv, PyData.eqvAll, unlike_sorts.1, Bool.false_and]
theorem eqv_br (x y z : PyData) : PyData.eqv (.tuple [.str "block", z]) (.tuple [.str "run", x, y]) = false := by
  simp only [PyData.eqv, PyData.eqvAll, unlike_sorts.2, Bool.false_and]
mutual
theorem eqv_dat : ∀ a b : Nd, PyData.eqv (dat a) (dat b) = true ↔ a = b
  | .el n, .el m => by
    simp only [dat, PyData.eqv, beq_iff_eq, Nd.el.injEq]
    omega
  | .el _, .run _ _ => by simp [dat, PyData.eqv]
  | .el _, .blk _ => by simp [dat, PyData.eqv]
  | .run _ _, .el _ => by simp [dat, PyData.eqv]
  | .blk _, .el _ => by simp [dat, PyData.eqv]
  | .run a c, .run b d => by
    have ih := eqv_dat a b
    simp only [dat, PyData.eqv, PyData.eqvAll, beq_self_eq_true, Bool.true_and, Bool.and_true, Bool.and_eq_true, beq_iff_eq, Nd.run.injEq, ih]
    constructor
    · rintro ⟨h1, h2⟩
      exact ⟨h1, by omega⟩
    · rintro ⟨h1, h2⟩
      exact ⟨h1, by omega⟩
  | .run _ _, .blk _ => by simp [dat, eqv_rb]
  | .blk _, .run _ _ => by simp [dat, eqv_br]
  | .blk ps, .blk qs => by
    have ih := eqv_datAll ps qs
    simp only [dat, PyData.eqv, PyData.eqvAll, beq_self_eq_true, Bool.true_and, Bool.and_true, Nd.blk.injEq, ih]
theorem eqv_datAll : ∀ ps qs : List Nd, PyData.eqvAll (datAll ps) (datAll qs) = true ↔ ps = qs
  | [], [] => by simp [datAll, PyData.eqvAll]
  | [], _ :: _ => by simp [datAll, PyData.eqvAll]
  | _ :: _, [] => by simp [datAll, PyData.eqvAll]
  | a :: r, b :: q => by
    have h1 := eqv_dat a b
    have h2 := eqv_datAll r q
    simp only [datAll, PyData.eqvAll, Bool.and_eq_true, h1, h2, List.cons.injEq]
end
theorem eqv_no {a b : Nd} (h : a ≠ b) : PyData.eqv (dat a) (dat b) = false := by
  cases e : PyData.eqv (dat a) (dat b) with
  | false => rfl
  | true => exact absurd ((eqv_dat a b).mp e) h
theorem eqv_yes {a b : Nd} (h : a = b) : PyData.eqv (dat a) (dat b) = true := (eqv_dat a b).mpr h
theorem str_run_ok : PyData.canLay0 (.str "run") = true ∧ PyData.canLay0 (.str "block") = true := by
  constructor <;> decide +kernel
mutual
theorem canLay_dat : ∀ a : Nd, PyData.canLay0 (dat a) = true
  | .el n => by simp [dat, PyData.canLay0]
  | .run b c => by
    have h := canLay_dat b
    simp only [dat, PyData.canLay0, PyData.canLayAll0, h, str_run_ok.1, Bool.and_true]
    exact str_run_ok.1
  | .blk ps => by
    have h := canLay_datAll ps
    simp only [dat, PyData.canLay0, PyData.canLayAll0, h, Bool.and_true]
    exact str_run_ok.2
theorem canLay_datAll : ∀ ps : List Nd, PyData.canLayAll0 (datAll ps) = true
  | [] => by simp [datAll, PyData.canLayAll0]
  | a :: r => by
    have h1 := canLay_dat a
    have h2 := canLay_datAll r
    simp only [datAll, PyData.canLayAll0, h1, h2, Bool.and_true]
end
mutual
theorem depth_dat : ∀ (a : Nd) (l : Nat), Ok a l → (dat a).depth ≤ 3 * l + (if a.isRun then 1 else 0)
  | .el n, l, h => by simp [dat, PyData.depth]
  | .run b c, l, h => by
    unfold Ok at h
    have ih := depth_dat b l h.2.2.2
    rw [h.2.2.1] at ih
    simp only [dat, PyData.depth, PyData.depthAll, Nd.isRun, if_true]
    simp at ih
    omega
  | .blk ps, l, h => by
    unfold Ok at h
    have ih := depth_datAll ps (l - 1) h.2.2.2.1
    simp only [dat, PyData.depth, PyData.depthAll, Nd.isRun]
    simp
    omega
theorem depth_datAll : ∀ (ps : List Nd) (l : Nat), OkAll ps l → PyData.depthAll (datAll ps) ≤ 3 * l + 1
  | [], l, _ => by simp [datAll, PyData.depthAll]
  | a :: r, l, h => by
    unfold OkAll at h
    have h1 := depth_dat a l h.1
    have h2 := depth_datAll r l h.2
    simp only [datAll, PyData.depthAll]
    split at h1 <;> omega
end
theorem depth_le {a : Nd} {l : Nat} (h : Ok a l) : (dat a).depth ≤ 3 * l + 1 := by
  have := depth_dat a l h
  split at this <;> omega
theorem shaped_dat {a : Nd} {l : Nat} (h : Ok a l) (hl : l ≤ 20) : SeqAt.shaped (dat a) = true := by
  have d := depth_le h
  unfold SeqAt.shaped
  rw [Bool.and_eq_true]
  exact ⟨canLay_dat a, decide_eq_true (by omega)⟩
theorem shaped_all {ps : List Nd} {l : Nat} (h : OkAll ps l) (hl : l ≤ 20) : SeqAt.shaped (.list (datAll ps)) = true ∧ SeqAt.shaped (.tuple (datAll ps)) = true := by
  have d := depth_datAll ps l h
  unfold SeqAt.shaped
  simp only [Bool.and_eq_true]
  exact ⟨⟨by simpa [PyData.canLay0] using canLay_datAll ps, decide_eq_true (by simp only [PyData.depth]; omega)⟩, by simpa [PyData.canLay0] using canLay_datAll ps, decide_eq_true (by simp only [PyData.depth]; omega)⟩
/-! ### nodes that a heap bears -/
abbrev NdV (K : PySem.W.Frag) (H : Hp) (v : V) (a : Nd) : Prop := Dp K H v (dat a)
abbrev NdsV (K : PySem.W.Frag) (H : Hp) (vs : List V) (ps : List Nd) : Prop := DpAll K H vs (datAll ps)
section
variable {K : PySem.W.Frag} {H H' : Hp}
theorem NdV.el {v : V} {n : Nat} (h : NdV K H v (.el n)) : v = .int n := by
  unfold NdV dat at h
  cases h
  rfl
theorem NdV.run {v : V} {b : Nd} {c : Nat} (h : NdV K H v (.run b c)) : ∃ a v2, v = .ref a ∧ SqT K H a [.str "run", v2, .int c] ∧ NdV K H v2 b := by
  unfold NdV dat at h
  cases h with
  | tup h1 h2 =>
    cases h2 with
    | cons k1 h2 =>
      cases h2 with
      | cons k2 h2 =>
        cases h2 with
        | cons k3 h2 =>
          cases h2
          cases k1
          cases k3
          exact ⟨_, _, rfl, h1, k2⟩
theorem NdV.blk {v : V} {ps : List Nd} (h : NdV K H v (.blk ps)) : ∃ a b vs, v = .ref a ∧ SqT K H a [.str "block", .ref b] ∧ SqT K H b vs ∧ NdsV K H vs ps := by
  unfold NdV dat at h
  cases h with
  | tup h1 h2 =>
    cases h2 with
    | cons k1 h2 =>
      cases h2 with
      | cons k2 h2 =>
        cases h2
        cases k1
        cases k2 with
        | tup k3 k4 => exact ⟨_, _, _, rfl, h1, k3, k4⟩
theorem NdV.ofEl (n : Nat) : NdV K H (.int n) (.el n) := by
  unfold NdV dat
  exact .int _
theorem NdV.ofRun {a : Addr} {v2 : V} {b : Nd} {c : Nat} (h : SqT K H a [.str "run", v2, .int c]) (k : NdV K H v2 b) : NdV K H (.ref a) (.run b c) := by
  unfold NdV dat
  exact .tup h (.cons (.str _) (.cons k (.cons (.int _) .nil)))
theorem NdV.ofBlk {a b : Addr} {vs : List V} {ps : List Nd} (h : SqT K H a [.str "block", .ref b]) (k : SqT K H b vs) (q : NdsV K H vs ps) : NdV K H (.ref a) (.blk ps) := by
  unfold NdV dat
  exact .tup h (.cons (.str _) (.cons (.tup k q) .nil))
theorem NdsV.nil : NdsV K H [] [] := by
  unfold NdsV datAll
  exact .nil
theorem NdsV.cons {v : V} {vs : List V} {a : Nd} {ps : List Nd} (h : NdV K H v a) (k : NdsV K H vs ps) : NdsV K H (v :: vs) (a :: ps) := by
  unfold NdsV datAll
  exact .cons h k
theorem NdsV.inv {vs : List V} {a : Nd} {ps : List Nd} (h : NdsV K H vs (a :: ps)) : ∃ v r, vs = v :: r ∧ NdV K H v a ∧ NdsV K H r ps := by
  unfold NdsV datAll at h
  cases h with
  | cons h1 h2 => exact ⟨_, _, rfl, h1, h2⟩
theorem NdsV.inv0 {vs : List V} (h : NdsV K H vs []) : vs = [] := by
  unfold NdsV datAll at h
  cases h
  rfl
theorem NdsV.len : ∀ {ps : List Nd} {vs : List V}, NdsV K H vs ps → vs.length = ps.length
  | [], vs, h => by rw [h.inv0]; rfl
  | a :: r, vs, h => by
    obtain ⟨v, q, rfl, _, k⟩ := h.inv
    rw [List.length_cons, List.length_cons, NdsV.len k]
theorem NdsV.get : ∀ {ps : List Nd} {vs : List V} {i : Nat} {v : V}, NdsV K H vs ps → vs[i]? = some v → ∃ a, ps[i]? = some a ∧ NdV K H v a
  | [], vs, i, v, h, e => by rw [h.inv0] at e; simp at e
  | a :: r, vs, i, v, h, e => by
    obtain ⟨u, q, rfl, k1, k⟩ := h.inv
    cases i with
    | zero =>
      simp at e
      subst e
      exact ⟨a, rfl, k1⟩
    | succ i =>
      obtain ⟨b, h1, h2⟩ := NdsV.get (i := i) k (by simpa using e)
      exact ⟨b, by simpa using h1, h2⟩
theorem NdsV.at {ps : List Nd} {vs : List V} {i : Nat} {a : Nd} (h : NdsV K H vs ps) (e : ps[i]? = some a) : ∃ v, vs[i]? = some v ∧ NdV K H v a := by
  have hi := (List.getElem?_eq_some_iff.mp e).1
  obtain ⟨v, hv⟩ := get_of (l := vs) (i := i) (by rw [h.len]; exact hi)
  obtain ⟨b, h1, h2⟩ := h.get hv
  rw [e] at h1
  cases h1
  exact ⟨v, hv, h2⟩
theorem NdsV.app : ∀ {ps qs : List Nd} {vs us : List V}, NdsV K H vs ps → NdsV K H us qs → NdsV K H (vs ++ us) (ps ++ qs)
  | [], qs, vs, us, h, k => by rw [h.inv0]; exact k
  | a :: r, qs, vs, us, h, k => by
    obtain ⟨v, q, rfl, k1, k2⟩ := h.inv
    exact NdsV.cons k1 (NdsV.app k2 k)
theorem NdsV.one {v : V} {a : Nd} (h : NdV K H v a) : NdsV K H [v] [a] := NdsV.cons h NdsV.nil
theorem NdsV.last {ps : List Nd} {vs : List V} {z : Nd} (h : NdsV K H vs (ps ++ [z])) : ∃ u, atI vs (-1) = some u ∧ NdV K H u z := by
  have hl := h.len
  rw [List.length_append] at hl
  simp at hl
  rcases List.eq_nil_or_concat vs with rfl | ⟨init, u, rfl⟩
  · simp at hl
  · rw [List.concat_eq_append] at *
    refine ⟨u, atI_last _ _, ?_⟩
    have hi : init.length = ps.length := by simpa using hl
    obtain ⟨a, h1, h2⟩ := h.get (i := init.length) (v := u) (by rw [List.getElem?_append_right (Nat.le_refl _)]; simp)
    rw [hi, List.getElem?_append_right (Nat.le_refl _)] at h1
    have : a = z := by simpa using h1.symm
    rw [← this]
    exact h2
/-- node data stand while tuples stand -/
def Tups (K : PySem.W.Frag) (H H' : Hp) : Prop := ∀ a xs, SqT K H a xs → SqT K H' a xs
theorem Tups.of (e : Same H H') : Tups K H H' := fun _ _ h => sameT e h
theorem Tups.trans {H2 : Hp} (e : Tups K H H') (k : Tups K H' H2) : Tups K H H2 := fun a xs h => k a xs (e a xs h)
theorem Tups.refl : Tups K H H := fun _ _ h => h
theorem But.tups {p : Addr} {ys : List V} (e : But p H H') (h : H p = some (.lst ys)) : Tups K H H' := fun _ _ k => e.sqt h k
theorem But.tupsP {p : Addr} {c : Nat} (e : But p H H') (h : Pot H p c) : Tups K H H' := let ⟨_, k⟩ := h.ls; e.tups k
mutual
theorem NdV.up (e : Tups K H H') : ∀ {a : Nd} {v : V}, NdV K H v a → NdV K H' v a
  | .el n, v, h => by rw [h.el]; exact .ofEl n
  | .run b c, v, h => by
    obtain ⟨a, v2, rfl, h1, h2⟩ := h.run
    exact .ofRun (e _ _ h1) (NdV.up e h2)
  | .blk ps, v, h => by
    obtain ⟨a, b, vs, rfl, h1, h2, h3⟩ := h.blk
    exact .ofBlk (e _ _ h1) (e _ _ h2) (NdsV.up e h3)
theorem NdsV.up (e : Tups K H H') : ∀ {ps : List Nd} {vs : List V}, NdsV K H vs ps → NdsV K H' vs ps
  | [], vs, h => by rw [h.inv0]; exact .nil
  | a :: r, vs, h => by
    obtain ⟨v, q, rfl, k1, k2⟩ := h.inv
    exact NdsV.cons (NdV.up e k1) (NdsV.up e k2)
end
theorem SqT.ty {a : Addr} {xs : List V} (h : SqT K H a xs) : TyX K H (.ref a) (.type "tuple") := by
  rcases h with (h | ⟨o, h⟩) | ⟨o, its, n, h1, h2, _⟩
  · exact .base (.tup h)
  · exact .fTuple h
  · exact .kTuple h1 h2
end
end Loc

set_option Elab.async false
set_option linter.all false
set_option maxRecDepth 100000
namespace Loc
open PySem PySem.Spec PyProof.Rows L2
def Smalls (B : Nat) (xs : List V) : Prop := ∀ x ∈ xs, ∃ n : Nat, x = .int n ∧ n ≤ B
theorem Smalls.nil {B : Nat} : Smalls B [] := fun x h => nomatch h
theorem Smalls.cons {B n : Nat} {x : V} {xs : List V} (e : x = .int n) (h : n ≤ B) (t : Smalls B xs) : Smalls B (x :: xs) := fun y hy => by
  rcases List.mem_cons.mp hy with rfl | hy
  · exact ⟨n, e, h⟩
  · exact t y hy
theorem Smalls.at {B : Nat} {xs : List V} {j : Nat} {x : V} (s : Smalls B xs) (h : xs[j]? = some x) : ∃ n : Nat, x = .int n ∧ n ≤ B := s x (List.mem_of_getElem? h)
/-! the two nodes of a level that are at hand -/
def tw : Nat → Nd × Nd
  | 0 => (.el 5, .el 6)
  | l + 1 => (.blk [(tw l).1, (tw l).2], .blk [(tw l).2, (tw l).1])
theorem tw_ok : ∀ l : Nat, Ok (tw l).1 l ∧ Ok (tw l).2 l ∧ (tw l).1 ≠ (tw l).2 ∧ (tw l).1.isRun = false ∧ (tw l).2.isRun = false
  | 0 => by
    refine ⟨?_, ?_, ?_, rfl, rfl⟩
    · unfold tw Ok; exact ⟨rfl, by decide⟩
    · unfold tw Ok; exact ⟨rfl, by decide⟩
    · unfold tw; intro h; injection h with h; exact absurd h (by decide)
  | l + 1 => by
    obtain ⟨h1, h2, h3, h4, h5⟩ := tw_ok l
    have b1 : (tw l).1.base = (tw l).1 := by
      cases e : (tw l).1 with
      | run b c => rw [e] at h4; cases h4
      | el n => rfl
      | blk ps => rfl
    have b2 : (tw l).2.base = (tw l).2 := by
      cases e : (tw l).2 with
      | run b c => rw [e] at h5; cases h5
      | el n => rfl
      | blk ps => rfl
    refine ⟨?_, ?_, ?_, rfl, rfl⟩
    · show Ok (.blk [(tw l).1, (tw l).2]) (l + 1)
      unfold Ok
      exact ⟨by omega, Nat.le_refl 2, (show 2 ≤ 3 from by decide), OkAll.of (fun n hn => by
        rcases List.mem_cons.mp hn with rfl | hn
        · exact h1
        · rw [List.mem_singleton.mp hn]; exact h2), ⟨by rw [b1, b2]; exact h3, trivial⟩⟩
    · show Ok (.blk [(tw l).2, (tw l).1]) (l + 1)
      unfold Ok
      exact ⟨by omega, Nat.le_refl 2, (show 2 ≤ 3 from by decide), OkAll.of (fun n hn => by
        rcases List.mem_cons.mp hn with rfl | hn
        · exact h2
        · rw [List.mem_singleton.mp hn]; exact h1), ⟨by rw [b1, b2]; exact h3.symm, trivial⟩⟩
    · show Nd.blk [(tw l).1, (tw l).2] ≠ Nd.blk [(tw l).2, (tw l).1]
      intro h
      injection h with h
      injection h with h
      exact h3 h
theorem base_of_no {n : Nd} (h : n.isRun = false) : n.base = n := by
  cases n with
  | run b c => cases h
  | el n => rfl
  | blk ps => rfl
theorem Ok.base {n : Nd} {l : Nat} (h : Ok n l) : Ok n.base l ∧ n.base.isRun = false := by
  cases n with
  | run b c =>
    unfold Ok at h
    exact ⟨h.2.2.2, h.2.2.1⟩
  | el n => exact ⟨h, rfl⟩
  | blk ps => exact ⟨h, rfl⟩
theorem unb_app : ∀ {ns : List Nd} {m : Nd}, Unb ns → (∀ x, ns.getLast? = some x → x.base ≠ m.base) → Unb (ns ++ [m])
  | [], _, _, _ => trivial
  | [a], m, _, h => ⟨h a rfl, trivial⟩
  | a :: b :: r, m, u, h => ⟨u.1, unb_app (ns := b :: r) u.2 fun x e => h x (by rw [List.getLast?_cons_cons]; exact e)⟩
/-- draws for one node of a level -/
def cost : Nat → Nat
  | 0 => 8
  | l + 1 => 4 * cost l
theorem cost_pos : ∀ l : Nat, 8 ≤ cost l
  | 0 => Nat.le_refl _
  | l + 1 => by
    have := cost_pos l
    unfold cost
    omega
theorem eqv_emptyN (ns : List Nd) : PyData.eqv (.list (datAll ns)) (.list []) = ns.isEmpty := by
  cases ns <;> simp [PyData.eqv, PyData.eqvAll, datAll]
theorem shaped_nil : SeqAt.shaped (.list []) = true := (shaped_ints []).1

def spGround (K : PySem.W.Frag) : Sp := fun vs H Q _ => ∃ v n, vs = [v] ∧ NdV K H v n ∧ ∀ v', NdV K H v' n.base → Q v' H
def spLeaf (K : PySem.W.Frag) : Sp := fun vs H Q _ => ∃ p c, vs = [.ref p] ∧ Pot H p c ∧ c < 900000 ∧ ∀ v n H', But p H H' → Pot H' p (c + 6) → NdV K H' v n → Ok n 0 → Q v H'
def spTwins (K : PySem.W.Frag) (m : Nat) : Sp := fun vs H Q _ => ∃ (z : Int) (l : Nat), vs = [.int z] ∧ z = l ∧ l < m ∧
  ∀ H' a v1 v2, Same H H' → H' a = some (.tup [v1, v2]) → NdV K H' v1 (tw l).1 → NdV K H' v2 (tw l).2 → Q (.ref a) H'
def spUnlike (K : PySem.W.Frag) (m : Nat) : Sp := fun vs H Q _ => ∃ (v : V) (n : Nd) (l : Nat), vs = [v, .int l] ∧ l < m ∧ l ≤ 20 ∧ NdV K H v n ∧ Ok n l ∧
  ∀ H' v' n', Same H H' → NdV K H' v' n' → Ok n' l → n'.base ≠ n.base → Q v' H'
def spRow (K : PySem.W.Frag) (m : Nat) : Sp := fun vs H Q _ => ∃ (p : Addr) (z : Int) (l many c : Nat), vs = [.ref p, .int z, .int many] ∧ z = l ∧ l < m ∧ l ≤ 20 ∧ many ≤ 10 ∧ Pot H p c ∧ c + 20 * cost l < 900000 ∧
  ∀ H' a vs' ns, But p H H' → H a = none → H' a = some (.lst vs') → NdsV K H' vs' ns → OkAll ns l → Unb ns → ns.length = many → Pot H' p (c + many * cost l) → Q (.ref a) H'
def spBlock (K : PySem.W.Frag) (m : Nat) : Sp := fun vs H Q _ => ∃ (p : Addr) (l c : Nat), vs = [.ref p, .int l] ∧ 1 ≤ l ∧ l < m ∧ l ≤ 20 ∧ Pot H p c ∧ c + 10 * cost l < 900000 ∧
  ∀ H' v n, But p H H' → NdV K H' v n → Ok n l → Pot H' p (c + cost l) → Q v H'
end Loc

set_option Elab.async false
set_option linter.all false
set_option maxRecDepth 100000
namespace Loc
open PySem PySem.Spec PyProof.Rows L2
/-! ### repr of nodes -/
mutual
theorem noDict_dat : ∀ a : Nd, PyData.hasDict (dat a) = false
  | .el n => by simp [dat, PyData.hasDict]
  | .run b c => by simp [dat, PyData.hasDict, PyData.hasDictAll, noDict_dat b]
  | .blk ps => by simp [dat, PyData.hasDict, PyData.hasDictAll, noDict_datAll ps]
theorem noDict_datAll : ∀ ps : List Nd, PyData.hasDictAll (datAll ps) = false
  | [] => by simp [datAll, PyData.hasDictAll]
  | a :: r => by simp [datAll, PyData.hasDictAll, noDict_dat a, noDict_datAll r]
end
theorem log60 {c : Nat} (h : c ≤ 10 ^ 60) : ((c : Int)).natAbs.log2 < 1920 := log_small (Nat.lt_of_le_of_lt h (by decide +kernel))
mutual
theorem showable_dat : ∀ (a : Nd) (l : Nat), Ok a l → PyData.showable (dat a) = true
  | .el n, l, h => by
    unfold Ok at h
    have := log60 (c := n) (Nat.le_trans h.2 (by decide +kernel))
    simpa [dat, PyData.showable] using this
  | .run b c, l, h => by
    unfold Ok at h
    have h1 := log60 h.2.1
    have h2 := showable_dat b l h.2.2.2
    simp only [dat, PyData.showable, PyData.showableAll, h2, Bool.true_and, Bool.and_true]
    exact decide_eq_true h1
  | .blk ps, l, h => by
    unfold Ok at h
    have h2 := showable_datAll ps (l - 1) h.2.2.2.1
    simp only [dat, PyData.showable, PyData.showableAll, h2, Bool.true_and, Bool.and_true]
theorem showable_datAll : ∀ (ps : List Nd) (l : Nat), OkAll ps l → PyData.showableAll (datAll ps) = true
  | [], l, _ => by simp [datAll, PyData.showableAll]
  | a :: r, l, h => by
    unfold OkAll at h
    simp [datAll, PyData.showableAll, showable_dat a l h.1, showable_datAll r l h.2]
end
theorem repr_sorts : (reprText "run").length = 5 ∧ (reprText "block").length = 7 := by
  constructor <;> decide +kernel
theorem shown_nat {c k : Nat} (hk : 0 < k) (h : c < 10 ^ k) : (PyData.shown (.int (c : Int))).length ≤ k := by
  rw [PyData.shown_int]
  refine toString_length_le (Int.natCast_nonneg _) hk ?_
  have := Int.ofNat_lt.mpr h
  have e : ((10 ^ k : Nat) : Int) = (10 : Int) ^ k := by simp
  rw [← e]
  exact this
/-- signs of a node of a level -/
def wide : Nat → Nat
  | 0 => 100
  | l + 1 => 3 * wide l + 110
mutual
theorem shown_dat : ∀ (a : Nd) (l : Nat), Ok a l → (PyData.shown (dat a)).length + (if a.isRun then 0 else 80) ≤ wide l
  | .el n, l, h => by
    unfold Ok at h
    obtain ⟨rfl, hn⟩ := h
    have := shown_nat (c := n) (k := 10) (by decide) (Nat.lt_of_le_of_lt hn (by decide))
    simp only [dat, Nd.isRun, wide]
    simp
    omega
  | .run b c, l, h => by
    unfold Ok at h
    have ih := shown_dat b l h.2.2.2
    rw [h.2.2.1] at ih
    have h1 := shown_nat (c := c) (k := 61) (by decide) (Nat.lt_of_le_of_lt h.2.1 (by decide +kernel))
    have t := tupleText_len_le [PyData.shown (.str "run"), PyData.shown (dat b), PyData.shown (.int c)]
    have e : (PyData.shown (.str "run")).length = 5 := by rw [PyData.shown_str]; exact repr_sorts.1
    simp only [List.map_cons, List.map_nil, List.sum_cons, List.sum_nil, List.length_cons, List.length_nil, e] at t
    simp only [dat, Nd.isRun, PyData.shown, PyData.shownAll, if_true, Bool.false_eq_true, if_false, Nat.add_zero] at ih t h1 ⊢
    omega
  | .blk ps, l, h => by
    unfold Ok at h
    obtain ⟨hl, h2, h3, h4, _⟩ := h
    obtain ⟨j, rfl⟩ : ∃ j, l = j + 1 := ⟨l - 1, by omega⟩
    have ih := shown_datAll ps j h4
    have t := tupleText_len_le (PyData.shownAll (datAll ps))
    rw [PyData.shownAll_length, datAll_length] at t
    have t2 := tupleText_len_le [PyData.shown (.str "block"), PyData.shown (.tuple (datAll ps))]
    have e : (PyData.shown (.str "block")).length = 7 := by rw [PyData.shown_str]; exact repr_sorts.2
    simp only [List.map_cons, List.map_nil, List.sum_cons, List.sum_nil, List.length_cons, List.length_nil, e] at t2
    have m : ps.length * wide j ≤ 3 * wide j := Nat.mul_le_mul_right _ h3
    simp only [dat, Nd.isRun, PyData.shown, PyData.shownAll, wide] at t t2 ⊢
    simp
    omega
theorem shown_datAll : ∀ (ps : List Nd) (l : Nat), OkAll ps l → ((PyData.shownAll (datAll ps)).map (·.length)).sum ≤ ps.length * wide l
  | [], l, _ => by simp [datAll, PyData.shownAll]
  | a :: r, l, h => by
    unfold OkAll at h
    have h1 := shown_dat a l h.1
    have h2 := shown_datAll r l h.2
    simp only [datAll, PyData.shownAll, List.map_cons, List.sum_cons, List.length_cons]
    rw [Nat.add_mul]
    omega
end
/-- what repr asks of a tuple of nodes -/
theorem rep_nodes {K : PySem.W.Frag} {H : Hp} {a : Addr} {us : List V} {ns : List Nd} {l : Nat} {Q : VK} (hS : SqT K H a us) (hn : NdsV K H us ns) (ok : OkAll ns l) (hl : l ≤ 20) (hz : ns.length * wide l + 2 * ns.length + 3 ≤ sizeLine)
    (q : Q (.str (PyData.shown (.tuple (datAll ns)))) H) : rRep K [.ref a] H Q := by
  have d := depth_datAll ns l ok
  refine ⟨a, .tuple (datAll ns), rfl, .tup hS hn, ?_, ?_, ?_, ?_, q⟩
  · show PyData.showableAll _ = true
    exact showable_datAll ns l ok
  · show PyData.hasDictAll _ = false
    exact noDict_datAll ns
  · simp only [PyData.depth]
    omega
  · show (tupleText _).length ≤ sizeLine
    have t := tupleText_len_le (PyData.shownAll (datAll ns))
    have s := shown_datAll ns l ok
    rw [PyData.shownAll_length, datAll_length] at t
    omega
/-! ### making runs -/
noncomputable section
open Classical
def stepG (acc : List (Nd × Nat)) (n : Nd) : List (Nd × Nat) :=
  match acc.getLast? with
  | some (m, c) => if m = n then acc.dropLast ++ [(n, c + 1)] else acc ++ [(n, 1)]
  | none => acc ++ [(n, 1)]
def grp (ns : List Nd) : List (Nd × Nat) := ns.foldl stepG []
theorem grp_app (ns : List Nd) (n : Nd) : grp (ns ++ [n]) = stepG (grp ns) n := by
  unfold grp
  rw [List.foldl_append]
  rfl
theorem stepG_last (acc : List (Nd × Nat)) (n : Nd) : ∃ i c, stepG acc n = i ++ [(n, c)] := by
  unfold stepG
  split
  · split
    · exact ⟨_, _, rfl⟩
    · exact ⟨_, _, rfl⟩
  · exact ⟨_, _, rfl⟩
theorem stepG_eq {i : List (Nd × Nat)} {n : Nd} {c : Nat} : stepG (i ++ [(n, c)]) n = i ++ [(n, c + 1)] := by
  unfold stepG
  rw [List.getLast?_append]
  simp
theorem stepG_ne {acc : List (Nd × Nat)} {n : Nd} (h : ∀ m c, acc.getLast? = some (m, c) → m ≠ n) : stepG acc n = acc ++ [(n, 1)] := by
  unfold stepG
  split
  · rename_i m c e
    rw [if_neg (h m c e)]
  · rfl
/-- the last group's node is the last node -/
theorem grp_last (ns : List Nd) (n : Nd) (c : Nat) (h : (grp ns).getLast? = some (n, c)) : ns.getLast? = some n := by
  rcases List.eq_nil_or_concat ns with rfl | ⟨init, z, rfl⟩
  · unfold grp at h
    simp at h
  · rw [List.concat_eq_append] at *
    rw [grp_app] at h
    obtain ⟨i, d, e⟩ := stepG_last (grp init) z
    rw [e, List.getLast?_append] at h
    simp at h
    rw [List.getLast?_append]
    simp [h.1]
theorem grp_rep (ns : List Nd) (a : Nd) (h : ns.getLast? ≠ some a) : ∀ k : Nat, grp (ns ++ List.replicate (k + 1) a) = grp ns ++ [(a, k + 1)]
  | 0 => by
    show grp (ns ++ [a]) = _
    rw [grp_app]
    refine stepG_ne fun m c e z => h ?_
    rw [grp_last ns m c e, z]
  | k + 1 => by
    rw [List.replicate_succ', ← List.append_assoc, grp_app, grp_rep ns a h k, stepG_eq]
def mkRun (p : Nd × Nat) : Nd := if p.2 = 1 then p.1 else .run p.1 p.2
def mkRuns (ns : List Nd) : List Nd := (grp ns).map mkRun
theorem stepG_len (acc : List (Nd × Nat)) (n : Nd) : (stepG acc n).length ≤ acc.length + 1 := by
  unfold stepG
  split
  · split
    · rename_i e _
      have := List.length_pos_iff.mpr (show acc ≠ [] from fun z => by rw [z] at e; cases e)
      simp
      try omega
    · simp
  · simp
theorem grp_foot (ns : List Nd) : ∀ p ∈ grp ns, p.1 ∈ ns ∧ 1 ≤ p.2 ∧ p.2 ≤ ns.length := by
  rcases h : ns.reverse with _ | ⟨z, r⟩
  all_goals skip
  · have : ns = [] := by simpa using h
    subst this
    unfold grp
    intro p hp
    exact nomatch hp
  · have e : ns = r.reverse ++ [z] := by
      have := congrArg List.reverse h
      simpa using this
    rw [e]
    clear h e
    generalize r.reverse = xs
    clear r
    suffices hh : ∀ (k : Nat) (xs : List Nd), xs.length = k → ∀ p ∈ grp xs, p.1 ∈ xs ∧ 1 ≤ p.2 ∧ p.2 ≤ xs.length from hh _ _ rfl
    intro k
    induction k with
    | zero =>
      intro xs hx p hp
      rw [List.eq_nil_of_length_eq_zero hx] at hp
      unfold grp at hp
      exact nomatch hp
    | succ k ih =>
      intro xs hx p hp
      rcases List.eq_nil_or_concat xs with rfl | ⟨i, y, rfl⟩
      · simp at hx
      · rw [List.concat_eq_append] at *
        have hi : i.length = k := by simpa using hx
        have g := ih i hi
        rw [grp_app] at hp
        unfold stepG at hp
        split at hp
        · rename_i m c e
          have gm := g (m, c) (List.mem_of_getLast? e)
          split at hp
          · rcases List.mem_append.mp hp with hp | hp
            · have := g p ((List.dropLast_sublist _).subset hp)
              simp
              exact ⟨.inl this.1, this.2.1, by omega⟩
            · rw [List.mem_singleton.mp hp]
              simp
              simp at gm
              omega
          · rcases List.mem_append.mp hp with hp | hp
            · have := g p hp
              simp
              exact ⟨.inl this.1, this.2.1, by omega⟩
            · rw [List.mem_singleton.mp hp]
              simp
        · rcases List.mem_append.mp hp with hp | hp
          · have := g p hp
            simp
            exact ⟨.inl this.1, this.2.1, by omega⟩
          · rw [List.mem_singleton.mp hp]
            simp
theorem grp_len (ns : List Nd) : (grp ns).length ≤ ns.length := by
  suffices hh : ∀ (xs : List Nd) (acc : List (Nd × Nat)), (xs.foldl stepG acc).length ≤ acc.length + xs.length from by
    have := hh ns []
    show (ns.foldl stepG []).length ≤ _
    simpa using this
  intro xs
  induction xs with
  | nil => intro acc; simp
  | cons x r ih =>
    intro acc
    have h1 := ih (stepG acc x)
    have h2 := stepG_len acc x
    rw [List.foldl_cons, List.length_cons]
    omega
theorem mkRuns_ok {ns : List Nd} {l : Nat} (h : OkAll ns l) (nr : ∀ n ∈ ns, n.isRun = false) (hz : ns.length ≤ 10 ^ 60) : OkAll (mkRuns ns) l := OkAll.of fun n hn => by
  obtain ⟨p, hp, rfl⟩ := List.mem_map.mp hn
  obtain ⟨h1, h2, h3⟩ := grp_foot ns p hp
  unfold mkRun
  split
  · exact h.mem _ h1
  · unfold Ok
    exact ⟨by omega, Nat.le_trans h3 hz, nr _ h1, h.mem _ h1⟩
end
end Loc
namespace Loc
open PySem PySem.Spec PyProof.Rows L2
/-! pairs of a node and a count -/
def pdat (p : Nd × Nat) : PyData := .tuple [dat p.1, .int (p.2 : Int)]
abbrev PrsV (K : PySem.W.Frag) (H : Hp) (vs : List V) (ps : List (Nd × Nat)) : Prop := DpAll K H vs (ps.map pdat)
section
variable {K : PySem.W.Frag} {H H' : Hp}
theorem PrsV.one {a : Addr} {v : V} {p : Nd × Nat} (h : SqT K H a [v, .int (p.2 : Int)]) (k : NdV K H v p.1) : PrsV K H [.ref a] [p] := .cons (.tup h (.cons k (.cons (.int _) .nil))) .nil
theorem PrsV.inv {v : V} {p : Nd × Nat} (h : Dp K H v (pdat p)) : ∃ a u, v = .ref a ∧ SqT K H a [u, .int (p.2 : Int)] ∧ NdV K H u p.1 := by
  unfold pdat at h
  cases h with
  | tup h1 h2 =>
    cases h2 with
    | cons k1 h2 =>
      cases h2 with
      | cons k2 h2 =>
        cases h2
        cases k2
        exact ⟨_, _, rfl, h1, k1⟩
theorem DpAll.len : ∀ {ds : List PyData} {vs : List V}, DpAll K H vs ds → vs.length = ds.length
  | _, _, .nil => rfl
  | _, _, .cons _ t => by rw [List.length_cons, List.length_cons, DpAll.len t]
theorem DpAll.app : ∀ {ds es : List PyData} {vs us : List V}, DpAll K H vs ds → DpAll K H us es → DpAll K H (vs ++ us) (ds ++ es)
  | _, _, _, _, .nil, k => k
  | _, _, _, _, .cons h t, k => .cons h (DpAll.app t k)
theorem DpAll.split : ∀ {ds es : List PyData} {vs : List V}, DpAll K H vs (ds ++ es) → ∃ us ws, vs = us ++ ws ∧ DpAll K H us ds ∧ DpAll K H ws es
  | [], es, vs, h => ⟨[], vs, rfl, .nil, h⟩
  | d :: ds, es, _, .cons h t => by
    obtain ⟨us, ws, rfl, h1, h2⟩ := DpAll.split (ds := ds) (es := es) t
    exact ⟨_ :: us, ws, rfl, .cons h h1, h2⟩
theorem DpAll.get : ∀ {ds : List PyData} {vs : List V} {i : Nat} {v : V}, DpAll K H vs ds → vs[i]? = some v → ∃ d, ds[i]? = some d ∧ Dp K H v d
  | _, _, _, _, .nil, e => by simp at e
  | _, _, 0, _, .cons h t, e => by
    simp at e
    subst e
    exact ⟨_, rfl, h⟩
  | _, _, i + 1, _, .cons h t, e => by
    obtain ⟨d, h1, h2⟩ := DpAll.get (i := i) t (by simpa using e)
    exact ⟨d, by simpa using h1, h2⟩
theorem Pr.up (e : Tups K H H') {v : V} {p : Nd × Nat} (h : Dp K H v (pdat p)) : Dp K H' v (pdat p) := by
  obtain ⟨a, u, rfl, h1, h2⟩ := PrsV.inv h
  exact .tup (e _ _ h1) (.cons (h2.up e) (.cons (.int _) .nil))
theorem PrsV.up (e : Tups K H H') : ∀ {ps : List (Nd × Nat)} {vs : List V}, PrsV K H vs ps → PrsV K H' vs ps
  | [], _, h => by
    cases h
    exact .nil
  | p :: r, _, h => by
    cases h with
    | cons h1 h2 => exact .cons (Pr.up e h1) (PrsV.up e h2)
theorem canLay_prs (l : Nat) : ∀ ps : List (Nd × Nat), (∀ p ∈ ps, Ok p.1 l) → PyData.canLayAll0 (ps.map pdat) = true ∧ PyData.depthAll (ps.map pdat) ≤ 3 * l + 2
  | [], _ => by simp [PyData.canLayAll0, PyData.depthAll]
  | p :: r, h => by
    have h1 := canLay_dat p.1
    have h2 := depth_le (h p List.mem_cons_self)
    have h3 := canLay_prs l r fun q hq => h q (List.mem_cons_of_mem _ hq)
    constructor
    · simp only [List.map_cons, PyData.canLayAll0, pdat, PyData.canLay0, h1, Bool.true_and]
      exact h3.1
    · have := h3.2
      simp only [List.map_cons, PyData.depthAll, pdat, PyData.depth]
      omega
theorem shaped_prs {l : Nat} {ps : List (Nd × Nat)} (h : ∀ p ∈ ps, Ok p.1 l) (hl : l ≤ 20) : SeqAt.shaped (.list (ps.map pdat)) = true := by
  obtain ⟨h1, h2⟩ := canLay_prs l ps h
  unfold SeqAt.shaped
  rw [Bool.and_eq_true]
  exact ⟨by simpa [PyData.canLay0] using h1, decide_eq_true (by simp only [PyData.depth]; omega)⟩
theorem eqv_emptyP (ps : List (Nd × Nat)) : PyData.eqv (.list (ps.map pdat)) (.list []) = ps.isEmpty := by
  cases ps <;> simp [PyData.eqv, PyData.eqvAll]
theorem ixN_last {n : Nat} : ixN (n + 1) (-1) = some n := by
  unfold ixN
  rw [if_neg (by omega), if_pos (by omega)]
  congr 1
  omega
end
theorem cut_to (xs : List V) (k : Nat) : cutV xs none (some (k : Int)) = xs.take k := by
  unfold cutV
  rw [HT.sIx_none, HT.sIx_nat, List.drop_zero, Nat.sub_zero]
  rcases Nat.le_total k xs.length with h | h
  · rw [Nat.min_eq_left h]
  · rw [Nat.min_eq_right h, List.take_length, List.take_of_length_le h]
theorem rep_one {α : Type} (x : α) : ∀ k : Nat, (List.replicate k [x]).flatten = List.replicate k x
  | 0 => rfl
  | k + 1 => by rw [List.replicate_succ, List.flatten_cons, rep_one x k]; rfl
theorem NdsV.rep {K : PySem.W.Frag} {H : Hp} {v : V} {a : Nd} (h : NdV K H v a) : ∀ k : Nat, NdsV K H (List.replicate k v) (List.replicate k a)
  | 0 => .nil
  | k + 1 => by
    rw [List.replicate_succ, List.replicate_succ]
    exact .cons h (NdsV.rep h k)
theorem NdsV.take {K : PySem.W.Frag} {H : Hp} : ∀ {ps : List Nd} {vs : List V} (k : Nat), NdsV K H vs ps → NdsV K H (vs.take k) (ps.take k)
  | [], vs, k, h => by rw [h.inv0]; simp; exact .nil
  | a :: r, vs, 0, h => by simp; exact .nil
  | a :: r, vs, k + 1, h => by
    obtain ⟨v, q, rfl, k1, k2⟩ := h.inv
    rw [List.take_succ_cons, List.take_succ_cons]
    exact .cons k1 (NdsV.take k k2)
end Loc
namespace Loc
open PySem PySem.Spec PyProof.Rows L2
section
variable {K : PySem.W.Frag} {H : Hp}
theorem PrsV.app {ps qs : List (Nd × Nat)} {vs us : List V} (h : PrsV K H vs ps) (k : PrsV K H us qs) : PrsV K H (vs ++ us) (ps ++ qs) := by
  show DpAll K H _ _
  rw [List.map_append]
  exact DpAll.app h k
theorem PrsV.split {ps : List (Nd × Nat)} {p : Nd × Nat} {vs : List V} (h : PrsV K H vs (ps ++ [p])) : ∃ us a u, vs = us ++ [.ref a] ∧ PrsV K H us ps ∧ SqT K H a [u, .int (p.2 : Int)] ∧ NdV K H u p.1 := by
  have h : DpAll K H vs ((ps ++ [p]).map pdat) := h
  rw [List.map_append] at h
  obtain ⟨us, ws, rfl, h1, h2⟩ := DpAll.split h
  cases h2 with
  | cons k1 k2 =>
    cases k2
    obtain ⟨a, u, rfl, t1, t2⟩ := PrsV.inv k1
    exact ⟨us, a, u, rfl, h1, t1, t2⟩
theorem PrsV.len {ps : List (Nd × Nat)} {vs : List V} (h : PrsV K H vs ps) : vs.length = ps.length := by rw [DpAll.len h, List.length_map]
theorem PrsV.get {ps : List (Nd × Nat)} {vs : List V} {i : Nat} {v : V} (h : PrsV K H vs ps) (e : vs[i]? = some v) : ∃ p a u, ps[i]? = some p ∧ v = .ref a ∧ SqT K H a [u, .int (p.2 : Int)] ∧ NdV K H u p.1 := by
  obtain ⟨d, h1, h2⟩ := DpAll.get h e
  rw [List.getElem?_map] at h1
  obtain ⟨p, hp, rfl⟩ := Option.map_eq_some_iff.mp h1
  obtain ⟨a, u, rfl, t1, t2⟩ := PrsV.inv h2
  exact ⟨p, a, u, hp, rfl, t1, t2⟩
end
end Loc

set_option Elab.async false
set_option linter.all false
set_option maxRecDepth 100000
namespace Loc
open PySem PySem.Spec PyProof.Rows L2
/-! ### texts and sizes -/
def numT (n : Nat) : Str := Str.ofString (toString (n : Int))
mutual
def txt : Nd → Str
  | .el n => numT n
  | .run b c => txt b ++ Str.ofString "^" ++ numT c
  | .blk ps => Str.ofString "(" ++ Txt.join " " (txts ps) ++ Str.ofString ")"
def txts : List Nd → List Str
  | [] => []
  | a :: r => txt a :: txts r
end
mutual
def sz : Nd → Nat
  | .el _ => 1
  | .run b c => sz b * c
  | .blk ps => szs ps
def szs : List Nd → Nat
  | [] => 0
  | a :: r => sz a + szs r
end
mutual
def ht : Nd → Nat
  | .el _ => 0
  | .run b _ => ht b + 1
  | .blk ps => hts ps + 1
def hts : List Nd → Nat
  | [] => 0
  | a :: r => max (ht a) (hts r)
end
theorem hts_mem : ∀ {ps : List Nd} {n : Nd}, n ∈ ps → ht n ≤ hts ps
  | a :: r, n, h => by
    unfold hts
    rcases List.mem_cons.mp h with rfl | h
    · omega
    · have := hts_mem h
      omega
theorem txts_map : ∀ ps : List Nd, txts ps = ps.map txt
  | [] => by unfold txts; rfl
  | a :: r => by unfold txts; rw [txts_map r]; rfl
theorem szs_sum : ∀ ps : List Nd, ((ps.map fun n => ((sz n : Nat) : Int)).sum) = (szs ps : Nat)
  | [] => by unfold szs; rfl
  | a :: r => by
    unfold szs
    rw [List.map_cons, List.sum_cons, szs_sum r]
    omega
mutual
theorem ht_le : ∀ (a : Nd) (l : Nat), Ok a l → ht a ≤ 2 * l + (if a.isRun then 1 else 0)
  | .el n, l, h => by simp [ht]
  | .run b c, l, h => by
    unfold Ok at h
    have ih := ht_le b l h.2.2.2
    rw [h.2.2.1] at ih
    simp only [ht, Nd.isRun, if_true, Bool.false_eq_true, if_false] at ih ⊢
    omega
  | .blk ps, l, h => by
    unfold Ok at h
    have ih := hts_le ps (l - 1) h.2.2.2.1
    simp only [ht, Nd.isRun, Bool.false_eq_true, if_false]
    omega
theorem hts_le : ∀ (ps : List Nd) (l : Nat), OkAll ps l → hts ps ≤ 2 * l + 1
  | [], l, _ => by simp [hts]
  | a :: r, l, h => by
    unfold OkAll at h
    have h1 := ht_le a l h.1
    have h2 := hts_le r l h.2
    simp only [hts]
    split at h1 <;> omega
end
mutual
theorem sz_lt : ∀ (a : Nd) (l : Nat), Ok a l → sz a < 2 ^ (404 * l + (if a.isRun then 202 else 2))
  | .el n, l, h => by
    unfold sz
    exact Nat.one_lt_two_pow (by split <;> omega)
  | .run b c, l, h => by
    unfold Ok at h
    have ih := sz_lt b l h.2.2.2
    rw [h.2.2.1] at ih
    simp only [Nd.isRun, if_true, Bool.false_eq_true, if_false, sz] at ih ⊢
    have hc : c < 2 ^ 200 := Nat.lt_of_le_of_lt h.2.1 (by decide +kernel)
    have := Nat.mul_lt_mul'' ih hc
    rw [← Nat.pow_add] at this
    exact this
  | .blk ps, l, h => by
    unfold Ok at h
    have ih := szs_lt ps (l - 1) h.2.2.2.1
    simp only [Nd.isRun, Bool.false_eq_true, if_false, sz]
    have hp := Nat.two_pow_pos (404 * (l - 1) + 202)
    have m : ps.length * 2 ^ (404 * (l - 1) + 202) ≤ 3 * 2 ^ (404 * (l - 1) + 202) := Nat.mul_le_mul_right _ h.2.2.1
    have e : 2 ^ (404 * (l - 1) + 202) * 2 ^ 2 ≤ 2 ^ (404 * l + 2) := by
      rw [← Nat.pow_add]
      exact Nat.pow_le_pow_right (by decide) (by omega)
    omega
theorem szs_lt : ∀ (ps : List Nd) (l : Nat), OkAll ps l → szs ps ≤ ps.length * 2 ^ (404 * l + 202)
  | [], l, _ => by simp [szs]
  | a :: r, l, h => by
    unfold OkAll at h
    have h1 := sz_lt a l h.1
    have h2 := szs_lt r l h.2
    have h3 : 2 ^ (404 * l + (if a.isRun then 202 else 2)) ≤ 2 ^ (404 * l + 202) := Nat.pow_le_pow_right (by decide) (by split <;> omega)
    simp only [szs, List.length_cons]
    rw [Nat.add_mul]
    omega
end
theorem sz_small {a : Nd} {l : Nat} (h : Ok a l) : sz a < 2 ^ (404 * l + 202) := Nat.lt_of_lt_of_le (sz_lt a l h) (Nat.pow_le_pow_right (by decide) (by split <;> omega))
theorem numT_len {n k : Nat} (hk : 0 < k) (h : n < 10 ^ k) : (numT n).length ≤ k := by
  have := shown_nat hk h
  rw [PyData.shown_int] at this
  exact this
mutual
theorem txt_len : ∀ (a : Nd) (l : Nat), Ok a l → (txt a).length + (if a.isRun then 0 else 80) ≤ wide l
  | .el n, l, h => by
    unfold Ok at h
    obtain ⟨rfl, hn⟩ := h
    have := numT_len (n := n) (k := 10) (by decide) (Nat.lt_of_le_of_lt hn (by decide))
    simp only [txt, Nd.isRun, wide, Bool.false_eq_true, if_false]
    omega
  | .run b c, l, h => by
    unfold Ok at h
    have ih := txt_len b l h.2.2.2
    rw [h.2.2.1] at ih
    have h1 := numT_len (n := c) (k := 61) (by decide) (Nat.lt_of_le_of_lt h.2.1 (by decide +kernel))
    simp only [txt, Nd.isRun, if_true, Bool.false_eq_true, if_false, strLen_append] at ih ⊢
    have e : (Str.ofString "^").length = 1 := by decide +kernel
    omega
  | .blk ps, l, h => by
    unfold Ok at h
    obtain ⟨hl, h2, h3, h4, _⟩ := h
    obtain ⟨j, rfl⟩ : ∃ j, l = j + 1 := ⟨l - 1, by omega⟩
    have ih := txts_len ps j h4
    have m : ps.length * wide j ≤ 3 * wide j := Nat.mul_le_mul_right _ h3
    have g := size_glued " " (txts ps)
    have e1 : (Str.ofString "(").length = 1 := by decide +kernel
    have e2 : (Str.ofString ")").length = 1 := by decide +kernel
    have e3 : (Str.ofString " ").length = 1 := by decide +kernel
    have e4 : (txts ps).length = ps.length := by rw [txts_map, List.length_map]
    rw [e3, e4] at g
    simp only [txt, Nd.isRun, Bool.false_eq_true, if_false, strLen_append, wide]
    show (Str.ofString "(").length + (Builtin.Str.glued " " (txts ps)).length + (Str.ofString ")").length + 80 ≤ _
    omega
theorem txts_len : ∀ (ps : List Nd) (l : Nat), OkAll ps l → ((txts ps).map (·.length)).sum ≤ ps.length * wide l
  | [], l, _ => by simp [txts]
  | a :: r, l, h => by
    unfold OkAll at h
    have h1 := txt_len a l h.1
    have h2 := txts_len r l h.2
    simp only [txts, List.map_cons, List.sum_cons, List.length_cons]
    rw [Nat.add_mul]
    omega
end
def C8 (s : Str) : Prop := ∀ c ∈ s.cps.toList, c < 16 ^ 8
theorem C8.of (s : String) : C8 (Str.ofString s) := fun c hc => by
  rw [signs_ofString] at hc
  obtain ⟨d, _, rfl⟩ := List.mem_map.mp hc
  exact d.val.toNat_lt
theorem C8.app {a b : Str} (h : C8 a) (k : C8 b) : C8 (a ++ b) := fun c hc => by
  have e : (a ++ b).cps.toList = a.cps.toList ++ b.cps.toList := by
    show (a.cps ++ b.cps).toList = _
    simp
  rw [e] at hc
  rcases List.mem_append.mp hc with hc | hc
  · exact h c hc
  · exact k c hc
theorem C8.join {sep : Str} (hs : C8 sep) : ∀ {l : List Str}, (∀ y ∈ l, C8 y) → C8 (Str.join sep l)
  | [], _ => fun c hc => by
    have : (Str.join sep []).cps.toList = [] := rfl
    rw [this] at hc
    cases hc
  | [x], h => h x List.mem_cons_self
  | x :: y :: r, h => ((h x List.mem_cons_self).app hs).app (C8.join hs fun z hz => h z (List.mem_cons_of_mem _ hz))
mutual
theorem txt_c8 : ∀ a : Nd, C8 (txt a)
  | .el n => by unfold txt; exact .of _
  | .run b c => by unfold txt; exact ((txt_c8 b).app (.of _)).app (.of _)
  | .blk ps => by
    unfold txt
    refine ((C8.of "(").app ?_).app (.of _)
    show C8 (Builtin.Str.glued " " (txts ps))
    rw [StrLaws.glued_eq_join]
    exact C8.join (.of _) (txts_c8 ps)
theorem txts_c8 : ∀ ps : List Nd, ∀ y ∈ txts ps, C8 y
  | [], y, h => by unfold txts at h; cases h
  | a :: r, y, h => by
    unfold txts at h
    rcases List.mem_cons.mp h with rfl | h
    · exact txt_c8 a
    · exact txts_c8 r y h
end
/-! repr of a node or a number -/
def rRepA (K : PySem.W.Frag) : List V → Hp → VK → Prop := fun xs H Q => rRep K xs H Q ∨ ∃ i : Int, xs = [.int i] ∧ i.natAbs.log2 < 1920 ∧ Q (.str (Str.ofString (toString i))) H
theorem call_repA {X : Cx} {k : Nat} (hr : Room k X.A) (hg : X.A.guards = some []) : CallR X (.builtin "repr") (rRepA X.K) := by
  intro pins s σ H xs us Q I r h
  rcases h with h | ⟨i, rfl, hz, q⟩
  · exact call_rep hr hg pins s σ H xs us Q I r h
  · obtain ⟨u, rfl, t, rfl⟩ := vals1 r
    exact PySem.P.repr_of_int hz ⟨.str _, H, I.tok _, ⟨_, rfl⟩, q⟩
theorem rep_node {K : PySem.W.Frag} {H : Hp} {v : V} {n : Nd} {l : Nat} {Q : VK} (hn : NdV K H v n) (ok : Ok n l) (hl : l ≤ 20) (hz : wide l ≤ sizeLine) (q : Q (.str (PyData.shown (dat n))) H) : rRepA K [v] H Q := by
  have d := depth_le ok
  have w := shown_dat n l ok
  have sh := showable_dat n l ok
  cases n with
  | el m =>
    have ev := hn.el
    subst ev
    refine .inr ⟨m, rfl, ?_, ?_⟩
    · simpa [dat, PyData.showable] using sh
    · have e : (dat (.el m)).shown = Str.ofString (toString (m : Int)) := by unfold dat; exact PyData.shown_int _
      rw [← e]
      exact q
  | run b c =>
    obtain ⟨a, v2, rfl, _, _⟩ := hn.run
    exact .inl ⟨a, _, rfl, hn, sh, noDict_dat _, by omega, by split at w <;> omega, q⟩
  | blk ps =>
    obtain ⟨a, b, vs, rfl, _, _, _⟩ := hn.blk
    exact .inl ⟨a, _, rfl, hn, sh, noDict_dat _, by omega, by split at w <;> omega, q⟩
end Loc

/-! the lowest digit in which two naturals differ -/
namespace M07
theorem or_two (a b : Nat) : (a ||| b) = 2 * ((a / 2) ||| (b / 2)) + (if a % 2 = 0 ∧ b % 2 = 0 then 0 else 1) := by
  have h1 : (a ||| b) / 2 = (a / 2) ||| (b / 2) := Nat.or_div_two
  have h2 : (a ||| b) % 2 = if a % 2 = 0 ∧ b % 2 = 0 then 0 else 1 := by
    have h3 := @Nat.or_mod_two_eq_one a b
    split <;> omega
  rw [← h1, ← h2]
  omega
theorem and_two (a b : Nat) : (a &&& b) = 2 * ((a / 2) &&& (b / 2)) + (if a % 2 = 1 ∧ b % 2 = 1 then 1 else 0) := by
  have h1 : (a &&& b) / 2 = (a / 2) &&& (b / 2) := Nat.and_div_two
  have h2 : (a &&& b) % 2 = if a % 2 = 1 ∧ b % 2 = 1 then 1 else 0 := by
    have h3 := @Nat.and_mod_two_eq_one a b
    split <;> omega
  rw [← h1, ← h2]
  omega
/-- the digits of one and not of the other -/
def dif (a b : Nat) : Nat := (a ||| b) - (a &&& b)
theorem and_le_or : ∀ (n a b : Nat), a + b ≤ n → (a &&& b) ≤ (a ||| b)
  | 0, a, b, h => by
    have e1 : a = 0 := by omega
    have e2 : b = 0 := by omega
    subst e1; subst e2; decide
  | n + 1, a, b, h => by
    by_cases z : a + b = 0
    · have e1 : a = 0 := by omega
      have e2 : b = 0 := by omega
      subst e1; subst e2; decide
    · have ih := and_le_or n (a / 2) (b / 2) (by omega)
      rw [or_two a b, and_two a b]
      split <;> split <;> omega
theorem dif_two (a b : Nat) : dif a b = 2 * dif (a / 2) (b / 2) + (if a % 2 = b % 2 then 0 else 1) := by
  unfold dif
  have k := and_le_or _ (a / 2) (b / 2) (Nat.le_refl _)
  rw [or_two a b, and_two a b]
  split <;> split <;> split <;> omega
/-- the lowest digit in which they differ, looked for within the fuel -/
def low : Nat → Nat → Nat → Nat
  | 0, _, _ => 0
  | n + 1, a, b => if a % 2 = b % 2 then low n (a / 2) (b / 2) + 1 else 0
theorem low_spec : ∀ (n a b : Nat), a + b < n → a ≠ b →
    (∃ q, dif a b = 2 ^ low n a b * (2 * q + 1)) ∧ (a / 2 ^ low n a b) % 2 ≠ (b / 2 ^ low n a b) % 2 ∧ ∀ i, i < low n a b → (a / 2 ^ i) % 2 = (b / 2 ^ i) % 2
  | 0, a, b, h, _ => by omega
  | n + 1, a, b, h, hne => by
    unfold low
    have hd := dif_two a b
    by_cases e : a % 2 = b % 2
    · rw [if_pos e]
      rw [if_pos e] at hd
      obtain ⟨⟨q, h1⟩, h2, h3⟩ := low_spec n (a / 2) (b / 2) (by omega) (by omega)
      refine ⟨⟨q, ?_⟩, ?_, fun i hi => ?_⟩
      · rw [hd, h1, Nat.pow_succ]
        simp [Nat.mul_assoc, Nat.mul_comm, Nat.mul_left_comm]
      · rw [Nat.pow_succ, Nat.mul_comm, ← Nat.div_div_eq_div_mul, ← Nat.div_div_eq_div_mul]
        exact h2
      · cases i with
        | zero => simpa using e
        | succ i =>
          rw [Nat.pow_succ, Nat.mul_comm, ← Nat.div_div_eq_div_mul, ← Nat.div_div_eq_div_mul]
          exact h3 i (by omega)
    · rw [if_neg e]
      rw [if_neg e] at hd
      refine ⟨⟨dif (a / 2) (b / 2), ?_⟩, ?_, fun i hi => ?_⟩
      · rw [hd]; simp
      · simpa using e
      · omega
/-- u & (u - 1), u = 2 ^ t * odd -/
theorem and_pred : ∀ (t q : Nat), (2 ^ t * (2 * q + 1)) &&& (2 ^ t * (2 * q + 1) - 1) = 2 ^ t * (2 * q)
  | 0, q => by
    simp only [Nat.pow_zero, Nat.one_mul, Nat.add_sub_cancel]
    rw [and_two]
    rw [show (2 * q + 1) / 2 = q by omega, show 2 * q / 2 = q by omega, Nat.and_self]
    rw [if_neg (by omega)]
    omega
  | t + 1, q => by
    have ih := and_pred t q
    have hp : 0 < 2 ^ t * (2 * q + 1) := Nat.mul_pos (Nat.two_pow_pos t) (by omega)
    rw [show 2 ^ (t + 1) * (2 * q + 1) = 2 * (2 ^ t * (2 * q + 1)) by rw [Nat.pow_succ]; simp [Nat.mul_assoc, Nat.mul_comm, Nat.mul_left_comm]]
    rw [show 2 ^ (t + 1) * (2 * q) = 2 * (2 ^ t * (2 * q)) by rw [Nat.pow_succ]; simp [Nat.mul_assoc, Nat.mul_comm, Nat.mul_left_comm]]
    generalize 2 ^ t * (2 * q + 1) = u at ih hp ⊢
    rw [and_two, if_neg (by omega)]
    rw [show 2 * u / 2 = u by omega, show (2 * u - 1) / 2 = u - 1 by omega, ih]
    omega
/-- the mark of a later place -/
def mk (a b : Nat) : Nat := 2 * low (a + b + 1) a b + (b / 2 ^ low (a + b + 1) a b) % 2
/-- a later round -/
def marks : Nat → List Nat → List Nat
  | _, [] => []
  | a, b :: r => mk a b :: marks b r
def round : List Nat → List Nat
  | [] => []
  | a :: r => a % 2 :: marks a r
theorem marks_length : ∀ (a : Nat) (l : List Nat), (marks a l).length = l.length
  | _, [] => rfl
  | a, b :: r => by show (marks b r).length + 1 = r.length + 1; rw [marks_length b r]
theorem round_length (l : List Nat) : (round l).length = l.length := by
  cases l with
  | nil => rfl
  | cons a r => show (marks a r).length + 1 = r.length + 1; rw [marks_length]
theorem marks_get : ∀ (a : Nat) (l : List Nat) (i x y : Nat), (a :: l)[i]? = some x → (a :: l)[i + 1]? = some y → (marks a l)[i]? = some (mk x y)
  | a, [], i, x, y, _, h => by simp at h
  | a, b :: r, 0, x, y, h1, h2 => by
    simp at h1 h2
    subst h1; subst h2; rfl
  | a, b :: r, i + 1, x, y, h1, h2 => by
    show (marks b r)[i]? = _
    exact marks_get b r i x y h1 h2
theorem round_get (l : List Nat) (i x y : Nat) (h1 : l[i]? = some x) (h2 : l[i + 1]? = some y) : (round l)[i + 1]? = some (mk x y) := by
  cases l with
  | nil => simp at h1
  | cons a r => exact marks_get a r i x y h1 h2
/-- neighbours unlike -/
def Unl : List Nat → Prop
  | a :: b :: r => a ≠ b ∧ Unl (b :: r)
  | _ => True
theorem Unl.get : ∀ {l : List Nat} {i x y : Nat}, Unl l → l[i]? = some x → l[i + 1]? = some y → x ≠ y
  | [], _, _, _, _, h, _ => by simp at h
  | [_], i, _, _, _, _, h => by simp at h
  | a :: b :: r, 0, x, y, u, h1, h2 => by
    simp at h1 h2
    subst h1; subst h2; exact u.1
  | a :: b :: r, i + 1, x, y, u, h1, h2 => Unl.get (l := b :: r) (i := i) u.2 (by simpa using h1) (by simpa using h2)
theorem mk_low {a b : Nat} (h : a ≠ b) : mk a b / 2 = low (a + b + 1) a b ∧ mk a b % 2 = (b / 2 ^ low (a + b + 1) a b) % 2 := by
  unfold mk
  omega
theorem mk_ne {a b c : Nat} (h1 : a ≠ b) (h2 : b ≠ c) : mk a b ≠ mk b c := fun e => by
  obtain ⟨p1, p2⟩ := mk_low h1
  obtain ⟨q1, q2⟩ := mk_low h2
  rw [e] at p1 p2
  have el : low (a + b + 1) a b = low (b + c + 1) b c := p1.symm.trans q1
  obtain ⟨_, k, _⟩ := low_spec (b + c + 1) b c (by omega) h2
  rw [← el] at k q2
  exact k (p2.symm.trans q2)
theorem mk_ne0 {a b : Nat} (h : a ≠ b) : a % 2 ≠ mk a b := fun e => by
  obtain ⟨p1, p2⟩ := mk_low h
  obtain ⟨_, k, _⟩ := low_spec (a + b + 1) a b (by omega) h
  have e0 : low (a + b + 1) a b = 0 := by omega
  rw [e0] at k p2
  simp at k p2
  omega
theorem marks_unl : ∀ (a : Nat) (l : List Nat), Unl (a :: l) → Unl (marks a l)
  | _, [], _ => trivial
  | _, [_], _ => trivial
  | a, b :: c :: r, u => ⟨mk_ne u.1 u.2.1, marks_unl b (c :: r) u.2⟩
theorem round_unl (l : List Nat) (u : Unl l) : Unl (round l) := by
  match l, u with
  | [], _ => trivial
  | [_], _ => trivial
  | a :: b :: r, u => exact ⟨mk_ne0 u.1, marks_unl a (b :: r) u⟩
end M07

set_option Elab.async false
set_option linter.all false
namespace M07
open PySem PyProof.Rows
theorem xor_nn (x y : Nat) : Builtin.bitXor (x : Int) (y : Int) = (dif x y : Nat) := by
  show Builtin.bitOr (x : Int) (y : Int) - Builtin.bitAnd (x : Int) (y : Int) = _
  have k := and_le_or _ x y (Nat.le_refl _)
  rw [L2.bitOr_nn (Int.natCast_nonneg _) (Int.natCast_nonneg _), bitAnd_pp (Int.natCast_nonneg _) (Int.natCast_nonneg _)]
  simp only [Int.toNat_natCast]
  unfold dif
  omega
theorem and_neg (u : Nat) (h : 0 < u) : Builtin.bitAnd (u : Int) (-(u : Int)) = (u : Int) - ((u &&& (u - 1) : Nat) : Int) := by
  have h1 : ¬ 0 ≤ -(u : Int) := by omega
  have h2 : (0 : Int) ≤ u := by omega
  have e : (Builtin.bitNot (-(u : Int))).toNat = u - 1 := by
    show (- -(u : Int) - 1).toNat = u - 1
    omega
  unfold Builtin.bitAnd
  rw [decide_eq_true h2, decide_eq_false h1]
  show (u : Int) - (((u : Int).toNat &&& (Builtin.bitNot (-(u : Int))).toNat : Nat) : Int) = _
  rw [e, Int.toNat_natCast]
theorem low_word {x y : Nat} (h : x ≠ y) : ((Builtin.Int.intBits (Builtin.bitAnd (Builtin.bitXor (x : Int) (y : Int)) (-(Builtin.bitXor (x : Int) (y : Int)))) : Nat) : Int) - 1 = (low (x + y + 1) x y : Nat) := by
  obtain ⟨⟨q, e⟩, _, _⟩ := low_spec (x + y + 1) x y (by omega) h
  generalize low (x + y + 1) x y = t at e ⊢
  have hp : 0 < 2 ^ t := Nat.two_pow_pos t
  have hu : 0 < dif x y := by
    rw [e]
    exact Nat.mul_pos hp (by omega)
  rw [xor_nn, and_neg _ hu, e, and_pred t q]
  have e2 : ((2 ^ t * (2 * q + 1) : Nat) : Int) - ((2 ^ t * (2 * q) : Nat) : Int) = ((2 ^ t : Nat) : Int) := by
    rw [show 2 ^ t * (2 * q + 1) = 2 ^ t * (2 * q) + 2 ^ t by rw [Nat.mul_add, Nat.mul_one]]
    omega
  rw [e2]
  unfold Builtin.Int.intBits
  have hz : ¬ (((2 ^ t : Nat) : Int) == 0) = true := by
    rw [beq_iff_eq]
    omega
  rw [if_neg hz, Int.natAbs_natCast, Nat.log2_two_pow]
  omega
theorem high_word (y t : Nat) : Builtin.bitAnd ((y : Int) / 2 ^ t) 1 = ((y / 2 ^ t % 2 : Nat) : Int) := by
  rw [PyProof.Rows.bitAnd_m1, ← PySem.W.kbt_cast t]
  omega
theorem mark_word {x y : Nat} (h : x ≠ y) : 2 * (((Builtin.Int.intBits (Builtin.bitAnd (Builtin.bitXor (x : Int) (y : Int)) (-(Builtin.bitXor (x : Int) (y : Int)))) : Nat) : Int) - 1) +
    Builtin.bitAnd ((y : Int) / 2 ^ (((Builtin.Int.intBits (Builtin.bitAnd (Builtin.bitXor (x : Int) (y : Int)) (-(Builtin.bitXor (x : Int) (y : Int)))) : Nat) : Int) - 1).toNat) 1 = (mk x y : Nat) := by
  rw [low_word h, Int.toNat_natCast, high_word]
  unfold mk
  omega
end M07

set_option Elab.async false
set_option linter.all false
set_option maxRecDepth 100000
namespace Loc
open PySem PySem.Spec PyProof.Rows L2 TL
/-! ### texts as lists of signs -/
mutual
def cd : Nd → List Nat
  | .el n => numL n
  | .run b c => cd b ++ 94 :: numL c
  | .blk ps => 40 :: cds ps
def cds : List Nd → List Nat
  | [] => [41]
  | a :: r => cd a ++ cdt r
def cdt : List Nd → List Nat
  | [] => [41]
  | a :: r => 32 :: (cd a ++ cdt r)
end
theorem cd_run (b : Nd) (c : Nat) : cd (.run b c) = cd b ++ 94 :: numL c := by rw [cd]
/-- a sign of a text -/
def Sg (c : Nat) : Prop := (48 ≤ c ∧ c ≤ 57) ∨ c = 32 ∨ c = 40 ∨ c = 41 ∨ c = 94
theorem numL_sg (n : Nat) : ∀ c ∈ numL n, 48 ≤ c ∧ c ≤ 57 := fun c hc => numL_digits n c hc
mutual
theorem cd_sg : ∀ a : Nd, ∀ c ∈ cd a, Sg c
  | .el n, c, h => by
    unfold cd at h
    exact .inl (numL_sg n c h)
  | .run b k, c, h => by
    unfold cd at h
    rcases List.mem_append.mp h with h | h
    · exact cd_sg b c h
    rcases List.mem_cons.mp h with h | h
    · exact .inr (.inr (.inr (.inr h)))
    · exact .inl (numL_sg k c h)
  | .blk ps, c, h => by
    unfold cd at h
    rcases List.mem_cons.mp h with h | h
    · exact .inr (.inr (.inl h))
    · exact cds_sg ps c h
theorem cds_sg : ∀ ps : List Nd, ∀ c ∈ cds ps, Sg c
  | [], c, h => by
    unfold cds at h
    exact .inr (.inr (.inr (.inl (List.mem_singleton.mp h))))
  | a :: r, c, h => by
    unfold cds at h
    rcases List.mem_append.mp h with h | h
    · exact cd_sg a c h
    · exact cdt_sg r c h
theorem cdt_sg : ∀ ps : List Nd, ∀ c ∈ cdt ps, Sg c
  | [], c, h => by
    unfold cdt at h
    exact .inr (.inr (.inr (.inl (List.mem_singleton.mp h))))
  | a :: r, c, h => by
    unfold cdt at h
    rcases List.mem_cons.mp h with h | h
    · exact .inr (.inl h)
    rcases List.mem_append.mp h with h | h
    · exact cd_sg a c h
    · exact cdt_sg r c h
end
/-- what may stand behind a node's text; behind that of a base -/
def Dl (s : List Nat) : Prop := s = [] ∨ ∃ r, s = 32 :: r ∨ s = 41 :: r
def Dv (s : List Nat) : Prop := Dl s ∨ ∃ r, s = 94 :: r
theorem Dv.no {s : List Nat} {c : Nat} {r : List Nat} (h : Dv s) (e : s = c :: r) (d : (48 ≤ c ∧ c ≤ 57) ∨ c = 40) : False := by
  rcases h with (h | ⟨q, h | h⟩) | ⟨q, h⟩
  · rw [h] at e; cases e
  · rw [h] at e
    injection e with e _
    omega
  · rw [h] at e
    injection e with e _
    omega
  · rw [h] at e
    injection e with e _
    omega
theorem digs : ∀ (x y s t : List Nat), (∀ c ∈ x, 48 ≤ c ∧ c ≤ 57) → (∀ c ∈ y, 48 ≤ c ∧ c ≤ 57) → Dv s → Dv t → x ++ s = y ++ t → x = y ∧ s = t
  | [], [], s, t, _, _, _, _, e => ⟨rfl, e⟩
  | [], d :: y, s, t, _, hy, ds, _, e => (ds.no e (.inl (hy d List.mem_cons_self))).elim
  | d :: x, [], s, t, hx, _, _, dt, e => (dt.no e.symm (.inl (hx d List.mem_cons_self))).elim
  | c :: x, d :: y, s, t, hx, hy, ds, dt, e => by
    injection e with e1 e2
    obtain ⟨h1, h2⟩ := digs x y s t (fun z hz => hx z (List.mem_cons_of_mem _ hz)) (fun z hz => hy z (List.mem_cons_of_mem _ hz)) ds dt e2
    exact ⟨by rw [e1, h1], h2⟩
theorem Dl.no94 {r : List Nat} (h : Dl (94 :: r)) : False := by
  rcases h with h | ⟨q, h | h⟩
  · cases h
  · injection h with h _; exact absurd h (by decide)
  · injection h with h _; exact absurd h (by decide)
mutual
theorem cd_head : ∀ a : Nd, ∃ c r, cd a = c :: r ∧ ((48 ≤ c ∧ c ≤ 57) ∨ c = 40)
  | .el n => by
    unfold cd
    cases e : numL n with
    | nil => exact absurd e (numL_ne n)
    | cons c r => exact ⟨c, r, rfl, .inl (numL_sg n c (by rw [e]; exact List.mem_cons_self))⟩
  | .run b k => by
    obtain ⟨c, r, e, d⟩ := cd_head b
    unfold cd
    rw [e]
    exact ⟨c, _, rfl, d⟩
  | .blk ps => by
    unfold cd
    exact ⟨40, _, rfl, .inr rfl⟩
end
theorem cdt_dl (ps : List Nd) (s : List Nat) : Dl (cdt ps ++ s) := by
  cases ps with
  | nil => unfold cdt; exact .inr ⟨_, .inr rfl⟩
  | cons a r => unfold cdt; exact .inr ⟨_, .inl rfl⟩
def Inj (a : Nd) : Prop := (∀ (b : Nd) (l l' : Nat) (s t : List Nat), a.isRun = false → b.isRun = false → Ok a l → Ok b l' → Dv s → Dv t → cd a ++ s = cd b ++ t → a = b ∧ s = t)
def InjU (a : Nd) : Prop := (∀ (b : Nd) (l l' : Nat) (s t : List Nat), Ok a l → Ok b l' → Dl s → Dl t → cd a ++ s = cd b ++ t → a = b ∧ s = t)
theorem injU_of {a : Nd} (h : Inj a) (hr : a.isRun = false) : InjU a := fun b l l' s t oa ob ds dt e => by
  cases b with
  | run b c =>
    rw [cd_run, List.append_assoc] at e
    have ob' := ob
    unfold Ok at ob'
    obtain ⟨_, h2⟩ := h b l l' s _ hr ob'.2.2.1 oa ob'.2.2.2 (.inl ds) (.inr ⟨numL c ++ t, rfl⟩) e
    exact (Dl.no94 (h2 ▸ ds)).elim
  | el n => exact h _ l l' s t hr rfl oa ob (.inl ds) (.inl dt) e
  | blk ps => exact h _ l l' s t hr rfl oa ob (.inl ds) (.inl dt) e
theorem injU_run {a : Nd} {c : Nat} (h : Inj a) : InjU (.run a c) := fun b l l' s t oa ob ds dt e => by
  unfold Ok at oa
  cases b with
  | run b d =>
    unfold Ok at ob
    rw [cd_run, cd_run, List.append_assoc, List.append_assoc] at e
    obtain ⟨h1, h2⟩ := h b l l' _ _ oa.2.2.1 ob.2.2.1 oa.2.2.2 ob.2.2.2 (.inr ⟨_, rfl⟩) (.inr ⟨_, rfl⟩) e
    injection h2 with _ h2
    have h2 : numL c ++ s = numL d ++ t := h2
    obtain ⟨h3, h4⟩ := digs _ _ s t (numL_sg c) (numL_sg d) (.inl ds) (.inl dt) h2
    exact ⟨by rw [h1, numL_inj h3], h4⟩
  | el n =>
    rw [cd_run, List.append_assoc] at e
    obtain ⟨_, h2⟩ := h (.el n) l l' _ t oa.2.2.1 rfl oa.2.2.2 ob (.inr ⟨numL c ++ s, rfl⟩) (.inl dt) e
    exact (Dl.no94 (h2 ▸ dt)).elim
  | blk ps =>
    rw [cd_run, List.append_assoc] at e
    obtain ⟨_, h2⟩ := h (.blk ps) l l' _ t oa.2.2.1 rfl oa.2.2.2 ob (.inr ⟨numL c ++ s, rfl⟩) (.inl dt) e
    exact (Dl.no94 (h2 ▸ dt)).elim
mutual
theorem inj : ∀ a : Nd, Inj a
  | .el n => fun b l l' s t _ rb oa ob ds dt e => by
    cases b with
    | run b c => cases rb
    | el m =>
      unfold cd at e
      obtain ⟨h1, h2⟩ := digs _ _ s t (numL_sg n) (numL_sg m) ds dt e
      exact ⟨by rw [numL_inj h1], h2⟩
    | blk ps =>
      exfalso
      unfold cd at e
      cases en : numL n with
      | nil => exact numL_ne n en
      | cons c r =>
        rw [en, List.cons_append, List.cons_append] at e
        injection e with e _
        have := numL_sg n c (by rw [en]; exact List.mem_cons_self)
        omega
  | .run b c => fun _ _ _ _ _ ra => by cases ra
  | .blk ps => fun b l l' s t _ rb oa ob ds dt e => by
    cases b with
    | run b c => cases rb
    | el m =>
      exfalso
      unfold cd at e
      cases en : numL m with
      | nil => exact numL_ne m en
      | cons c r =>
        rw [en, List.cons_append, List.cons_append] at e
        injection e with e _
        have := numL_sg m c (by rw [en]; exact List.mem_cons_self)
        omega
    | blk qs =>
      unfold Ok at oa ob
      unfold cd at e
      rw [List.cons_append, List.cons_append] at e
      injection e with _ e
      match ps, qs, oa, ob, e with
      | [], _, oa, _, _ => exact absurd oa.2.1 (by simp)
      | _ :: _, [], _, ob, _ => exact absurd ob.2.1 (by simp)
      | a :: r, b :: q, oa, ob, e =>
        unfold cds at e
        have o1 := oa.2.2.2.1
        have o2 := ob.2.2.2.1
        unfold OkAll at o1 o2
        rw [List.append_assoc, List.append_assoc] at e
        obtain ⟨h1, h2⟩ := injUs a b _ _ _ _ o1.1 o2.1 (cdt_dl r s) (cdt_dl q t) e
        obtain ⟨h3, h4⟩ := injT r q _ _ s t o1.2 o2.2 h2
        exact ⟨by rw [h1, h3], h4⟩
theorem injUs : ∀ a : Nd, InjU a
  | .el n => injU_of (inj (.el n)) rfl
  | .run b c => injU_run (inj b)
  | .blk ps => injU_of (inj (.blk ps)) rfl
theorem injT : ∀ (ps qs : List Nd) (l l' : Nat) (s t : List Nat), OkAll ps l → OkAll qs l' → cdt ps ++ s = cdt qs ++ t → ps = qs ∧ s = t
  | [], [], _, _, s, t, _, _, e => by
    unfold cdt at e
    injection e with _ e
    exact ⟨rfl, e⟩
  | [], b :: q, _, _, s, t, _, _, e => by
    unfold cdt at e
    injection e with e _
    exact absurd e (by decide)
  | a :: r, [], _, _, s, t, _, _, e => by
    unfold cdt at e
    injection e with e _
    exact absurd e (by decide)
  | a :: r, b :: q, l, l', s, t, oa, ob, e => by
    unfold cdt at e
    rw [List.cons_append, List.cons_append, List.append_assoc, List.append_assoc] at e
    injection e with _ e
    unfold OkAll at oa ob
    obtain ⟨h1, h2⟩ := injUs a b l l' _ _ oa.1 ob.1 (cdt_dl r s) (cdt_dl q t) e
    obtain ⟨h3, h4⟩ := injT r q l l' s t oa.2 ob.2 h2
    exact ⟨by rw [h1, h3], h4⟩
end
theorem cd_inj {a b : Nd} {l l' : Nat} (oa : Ok a l) (ob : Ok b l') (e : cd a = cd b) : a = b :=
  (injUs a b l l' [] [] oa ob (.inl rfl) (.inl rfl) (by rw [e])).1
end Loc

set_option Elab.async false
set_option linter.all false
set_option maxRecDepth 100000
namespace Loc
open PySem PySem.Spec PyProof.Rows L2 TL
/-! ### first marks -/
def cp : List Nat → List Nat → Nat
  | a :: r, b :: q => if a = b then cp r q + 1 else 0
  | _, _ => 0
theorem cp_same : ∀ (a b : List Nat) (i : Nat), i < cp a b → ∃ x, a[i]? = some x ∧ b[i]? = some x
  | [], _, i, h => by unfold cp at h; exact absurd h (Nat.not_lt_zero _)
  | _ :: _, [], i, h => by unfold cp at h; exact absurd h (Nat.not_lt_zero _)
  | a :: r, b :: q, i, h => by
    unfold cp at h
    split at h
    · rename_i e
      cases i with
      | zero => exact ⟨a, rfl, by rw [e]; rfl⟩
      | succ i => exact cp_same r q i (by omega)
    · exact absurd h (Nat.not_lt_zero _)
theorem cp_le : ∀ (a b : List Nat), cp a b ≤ a.length ∧ cp a b ≤ b.length
  | [], _ => by unfold cp; exact ⟨Nat.zero_le _, Nat.zero_le _⟩
  | _ :: _, [] => by unfold cp; exact ⟨Nat.zero_le _, Nat.zero_le _⟩
  | a :: r, b :: q => by
    have := cp_le r q
    unfold cp
    simp only [List.length_cons]
    split <;> omega
/-- there they differ, or one has ended -/
theorem cp_end : ∀ (a b : List Nat), a ≠ b → a[cp a b]? ≠ b[cp a b]?
  | [], [], h => absurd rfl h
  | [], b :: q, _ => by unfold cp; simp
  | a :: r, [], _ => by unfold cp; simp
  | a :: r, b :: q, h => by
    unfold cp
    split
    · rename_i e
      exact cp_end r q fun z => h (by rw [e, z])
    · rename_i e
      simpa using e
def code (c : Nat) : Nat := if 48 ≤ c ∧ c ≤ 57 then c - 48 else if c = 32 then 10 else if c = 40 then 11 else if c = 41 then 12 else if c = 94 then 13 else 14
theorem code_lt {c : Nat} (h : Sg c) : code c < 14 := by
  unfold code
  unfold Sg at h
  split
  · omega
  split
  · omega
  split
  · omega
  split
  · omega
  split
  · omega
  · omega
theorem code_inj {c d : Nat} (h : Sg c) (k : Sg d) (e : code c = code d) : c = d := by
  unfold code at e
  unfold Sg at h k
  rcases h with h | h | h | h | h <;> rcases k with k | k | k | k | k <;> simp_all <;> omega
def codeAt (t : List Nat) (i : Nat) : Nat := match t[i]? with
  | some c => code c
  | none => 14
theorem codeAt_some {t : List Nat} {i c : Nat} (h : t[i]? = some c) : codeAt t i = code c := by unfold codeAt; rw [h]
theorem codeAt_none {t : List Nat} {i : Nat} (h : t[i]? = none) : codeAt t i = 14 := by unfold codeAt; rw [h]
theorem codeAt_le {t : List Nat} (h : ∀ c ∈ t, Sg c) (i : Nat) : codeAt t i ≤ 14 := by
  cases e : t[i]? with
  | none => rw [codeAt_none e]; exact Nat.le_refl _
  | some c => rw [codeAt_some e]; exact Nat.le_of_lt (code_lt (h c (List.mem_of_getElem? e)))
theorem codeAt_ne {a b : List Nat} (ha : ∀ c ∈ a, Sg c) (hb : ∀ c ∈ b, Sg c) {i : Nat} (h : a[i]? ≠ b[i]?) : codeAt a i ≠ codeAt b i := by
  cases e : a[i]? with
  | none =>
    cases k : b[i]? with
    | none => rw [e, k] at h; exact absurd rfl h
    | some d =>
      rw [codeAt_none e, codeAt_some k]
      have := code_lt (hb d (List.mem_of_getElem? k))
      omega
  | some c =>
    have h1 := code_lt (ha c (List.mem_of_getElem? e))
    cases k : b[i]? with
    | none =>
      rw [codeAt_none k, codeAt_some e]
      omega
    | some d =>
      rw [codeAt_some e, codeAt_some k]
      intro z
      have := code_inj (ha c (List.mem_of_getElem? e)) (hb d (List.mem_of_getElem? k)) z
      rw [e, k, this] at h
      exact h rfl
def fmk (a b : List Nat) : Nat := 16 * cp a b + codeAt b (cp a b)
def fmt : List Nat → List (List Nat) → List Nat
  | _, [] => []
  | a, b :: r => fmk a b :: fmt b r
def fms : List (List Nat) → List Nat
  | [] => []
  | a :: r => codeAt a 0 :: fmt a r
theorem fmt_length : ∀ (a : List Nat) (l : List (List Nat)), (fmt a l).length = l.length
  | _, [] => rfl
  | a, b :: r => by show (fmt b r).length + 1 = r.length + 1; rw [fmt_length b r]
theorem fms_length (l : List (List Nat)) : (fms l).length = l.length := by
  cases l with
  | nil => rfl
  | cons a r => show (fmt a r).length + 1 = r.length + 1; rw [fmt_length]
theorem fmt_get : ∀ (a : List Nat) (l : List (List Nat)) (i : Nat) (x y : List Nat), (a :: l)[i]? = some x → (a :: l)[i + 1]? = some y → (fmt a l)[i]? = some (fmk x y)
  | a, [], i, x, y, _, h => by simp at h
  | a, b :: r, 0, x, y, h1, h2 => by
    simp at h1 h2
    subst h1; subst h2; rfl
  | a, b :: r, i + 1, x, y, h1, h2 => by
    show (fmt b r)[i]? = _
    exact fmt_get b r i x y h1 h2
theorem fms_get (l : List (List Nat)) (i : Nat) (x y : List Nat) (h1 : l[i]? = some x) (h2 : l[i + 1]? = some y) : (fms l)[i + 1]? = some (fmk x y) := by
  cases l with
  | nil => simp at h1
  | cons a r => exact fmt_get a r i x y h1 h2
/-- neighbours unlike -/
def UnlT : List (List Nat) → Prop
  | a :: b :: r => a ≠ b ∧ UnlT (b :: r)
  | _ => True
theorem fmk_ne {a b c : List Nat} (ha : ∀ x ∈ a, Sg x) (hb : ∀ x ∈ b, Sg x) (hc : ∀ x ∈ c, Sg x) (h1 : a ≠ b) (h2 : b ≠ c) : fmk a b ≠ fmk b c := fun e => by
  have l1 := codeAt_le hb (cp a b)
  have l2 := codeAt_le hc (cp b c)
  unfold fmk at e
  have ei : cp a b = cp b c := by omega
  have ec : codeAt b (cp a b) = codeAt c (cp b c) := by omega
  rw [ei] at ec
  exact codeAt_ne hb hc (cp_end b c h2) ec
theorem fmk_ne0 {a b : List Nat} (ha : ∀ x ∈ a, Sg x) (hb : ∀ x ∈ b, Sg x) (h : a ≠ b) : codeAt a 0 ≠ fmk a b := fun e => by
  have l1 := codeAt_le ha 0
  have l2 := codeAt_le hb (cp a b)
  unfold fmk at e
  have e0 : cp a b = 0 := by omega
  have k := cp_end a b h
  rw [e0] at k e
  exact codeAt_ne ha hb k (by omega)
theorem fmt_unl : ∀ (a : List Nat) (l : List (List Nat)), (∀ t ∈ a :: l, ∀ x ∈ t, Sg x) → UnlT (a :: l) → M07.Unl (fmt a l)
  | _, [], _, _ => trivial
  | _, [_], _, _ => trivial
  | a, b :: c :: r, hs, u => ⟨fmk_ne (hs a (by simp)) (hs b (by simp)) (hs c (by simp)) u.1 u.2.1, fmt_unl b (c :: r) (fun t ht => hs t (List.mem_cons_of_mem _ ht)) u.2⟩
theorem fms_unl (l : List (List Nat)) (hs : ∀ t ∈ l, ∀ x ∈ t, Sg x) (u : UnlT l) : M07.Unl (fms l) := by
  match l, hs, u with
  | [], _, _ => trivial
  | [_], _, _ => trivial
  | a :: b :: r, hs, u => exact ⟨fmk_ne0 (hs a (by simp)) (hs b (by simp)) u.1, fmt_unl a (b :: r) hs u⟩
theorem UnlT.get : ∀ {l : List (List Nat)} {i : Nat} {x y : List Nat}, UnlT l → l[i]? = some x → l[i + 1]? = some y → x ≠ y
  | [], _, _, _, _, h, _ => by simp at h
  | [_], i, _, _, _, _, h => by simp at h
  | a :: b :: r, 0, x, y, u, h1, h2 => by
    simp at h1 h2
    subst h1; subst h2; exact u.1
  | a :: b :: r, i + 1, x, y, u, h1, h2 => UnlT.get (l := b :: r) (i := i) u.2 (by simpa using h1) (by simpa using h2)
/-- unlike bases, unlike texts -/
theorem unlT_of {l : Nat} : ∀ {ns : List Nd}, OkAll ns l → Unb ns → UnlT (ns.map cd)
  | [], _, _ => trivial
  | [_], _, _ => trivial
  | a :: b :: r, ok, u => by
    unfold OkAll at ok
    have ok2 := ok.2
    unfold OkAll at ok2
    exact ⟨fun e => u.1 (by rw [cd_inj ok.1 ok2.1 e]), unlT_of (ns := b :: r) ok.2 u.2⟩
theorem cds_sgs (ns : List Nd) : ∀ t ∈ ns.map cd, ∀ x ∈ t, Sg x := fun t ht => by
  obtain ⟨n, _, rfl⟩ := List.mem_map.mp ht
  exact cd_sg n
mutual
theorem tl_txt : ∀ a : Nd, tl (txt a) = cd a
  | .el n => by
    unfold txt cd
    exact tl_num n
  | .run b c => by
    rw [show txt (.run b c) = txt b ++ Str.ofString "^" ++ numT c by rw [txt], cd_run, tl_append, tl_append, tl_txt b, List.append_assoc]
    have e1 : tl (Str.ofString "^") = [94] := by decide +kernel
    have e2 : tl (numT c) = numL c := tl_num c
    rw [e1, e2]
    rfl
  | .blk ps => by
    rw [show txt (.blk ps) = Str.ofString "(" ++ Txt.join " " (txts ps) ++ Str.ofString ")" by rw [txt], show cd (.blk ps) = 40 :: cds ps by rw [cd], tl_append, tl_append, join_eq, tl_join]
    have e1 : tl (Str.ofString "(") = [40] := by decide +kernel
    have e2 : tl (Str.ofString ")") = [41] := by decide +kernel
    have e3 : tl (Str.ofString " ") = [32] := by decide +kernel
    rw [e1, e2, e3, List.append_assoc]
    show 40 :: (joinL [32] ((txts ps).map tl) ++ [41]) = _
    rw [tl_txts ps]
theorem tl_txts : ∀ ps : List Nd, joinL [32] ((txts ps).map tl) ++ [41] = cds ps
  | [] => by
    rw [show txts [] = [] by rw [txts], show cds [] = [41] by rw [cds]]
    rfl
  | [a] => by
    rw [show txts [a] = [txt a] by rw [txts, txts], show cds [a] = cd a ++ cdt [] by rw [cds], show cdt [] = [41] by rw [cdt], ← tl_txt a]
    rfl
  | a :: b :: r => by
    rw [show txts (a :: b :: r) = txt a :: txts (b :: r) by rw [txts], show cds (a :: b :: r) = cd a ++ cdt (b :: r) by rw [cds], show cdt (b :: r) = 32 :: (cd b ++ cdt r) by rw [cdt], ← show cds (b :: r) = cd b ++ cdt r by rw [cds], ← tl_txts (b :: r), ← tl_txt a]
    rw [show txts (b :: r) = txt b :: txts r by rw [txts]]
    show tl (txt a) ++ ([32] ++ joinL [32] ((txt b :: txts r).map tl)) ++ [41] = _
    simp
end
theorem cd_len {a : Nd} : (cd a).length = (txt a).length := by rw [← tl_txt, len_tl]
/-- the sign's place in the program's list of signs -/
theorem sign_at {c : Nat} (h : Sg c) : ∃ rest, Builtin.Str.occurrences "0123456789 ()^" ⟨#[c]⟩ 0 (Str.ofString "0123456789 ()^").length 1 = code c :: rest := by
  unfold Sg at h
  have : c = 48 ∨ c = 49 ∨ c = 50 ∨ c = 51 ∨ c = 52 ∨ c = 53 ∨ c = 54 ∨ c = 55 ∨ c = 56 ∨ c = 57 ∨ c = 32 ∨ c = 40 ∨ c = 41 ∨ c = 94 := by omega
  rcases this with rfl | rfl | rfl | rfl | rfl | rfl | rfl | rfl | rfl | rfl | rfl | rfl | rfl | rfl <;> exact ⟨[], by decide +kernel⟩
/-- .. in the law's list, with one more sign -/
theorem sign_atL {c : Nat} (h : Sg c ∨ c = 36) : ∃ rest, Builtin.Str.occurrences "0123456789 ()^$" ⟨#[c]⟩ 0 (Str.ofString "0123456789 ()^$").length 1 = code c :: rest := by
  unfold Sg at h
  have : c = 48 ∨ c = 49 ∨ c = 50 ∨ c = 51 ∨ c = 52 ∨ c = 53 ∨ c = 54 ∨ c = 55 ∨ c = 56 ∨ c = 57 ∨ c = 32 ∨ c = 40 ∨ c = 41 ∨ c = 94 ∨ c = 36 := by omega
  rcases this with rfl | rfl | rfl | rfl | rfl | rfl | rfl | rfl | rfl | rfl | rfl | rfl | rfl | rfl | rfl <;> exact ⟨[], by decide +kernel⟩
end Loc
namespace Loc
open PySem PySem.Spec PyProof.Rows L2 TL
theorem cp_stop : ∀ (a b : List Nat) (x y : Nat), a[cp a b]? = some x → b[cp a b]? = some y → x ≠ y
  | [], _, x, y, h, _ => by simp at h
  | _ :: _, [], x, y, _, h => by simp at h
  | a :: r, b :: q, x, y, h, k => by
    unfold cp at h k
    split at h
    · rename_i e
      rw [if_pos e] at k
      exact cp_stop r q x y (by simpa using h) (by simpa using k)
    · rename_i e
      rw [if_neg e] at k
      have e1 : a = x := by simpa using h
      have e2 : b = y := by simpa using k
      rw [← e1, ← e2]
      exact e
abbrev vT (ns : List Nd) : List V := ns.map fun n => V.str (txt n)
theorem vT_get {ns : List Nd} {i : Nat} {n : Nd} (h : ns[i]? = some n) : (vT ns)[i]? = some (.str (txt n)) := by
  rw [List.getElem?_map, h]
  rfl
theorem one_sign {c d : Nat} : decide (V.str ⟨#[c]⟩ = V.str ⟨#[d]⟩) = decide (c = d) := by
  by_cases h : c = d
  · rw [h, decide_eq_true rfl, decide_eq_true rfl]
  · rw [decide_eq_false h, decide_eq_false (fun e => h (by
      injection e with e
      injection e with e
      have := congrArg (fun a => a.toList) e
      simpa using this))]
theorem len_cd {a : Nd} {l : Nat} (h : Ok a l) (hw : wide l ≤ 1000000) : (txt a).length ≤ 1000000 ∧ (txt a).length ≤ sizeLine := by
  have := txt_len a l h
  have : (txt a).length ≤ 1000000 := by split at this <;> omega
  exact ⟨this, Nat.le_trans this (by decide)⟩
end Loc

set_option Elab.async false
set_option linter.all false
set_option maxRecDepth 100000
namespace Loc
open PySem PySem.Spec PyProof.Rows L2
/-! ### list(range(a, b, c)); for x in r, r a range that is at hand -/
section
variable {X : Cx} {tg : Expr}
def tLstRg3 (ta : TA) : TE := fun σ H Q => ta σ H fun vs H1 => ∃ (i j c : Int) (n : Nat), vs = [.int i, .int j, .int c] ∧ RgC i j c n ∧ n ≤ 2 ^ 24 ∧ ∀ q, H1 q = none → Q (.ref q) (upd H1 q (.lst ((List.range n).map fun k => V.int (i + (k : Nat) * c))))
theorem vals_rgC {a c : Int} {n : Nat} {acc : Array Value} (h : ItemsOf (fun i v => ∃ t, v = .int (a + i * c) t) acc n) : Vals ((List.range n).map fun k => V.int (a + (k : Nat) * c)) acc.toList := by
  have e : acc.toList.length = n := by rw [Array.length_toList]; exact h.1
  rw [← e]
  refine vals_of_get acc.toList (fun k => V.int (a + (k : Nat) * c)) fun j u hj => ?_
  obtain ⟨t, rfl⟩ := h.2 j u (by rw [← hj, Array.getElem?_toList])
  exact ⟨t, rfl⟩
theorem pe_listRg3 {a b c : Expr} {ta : TA} {p p2 pos pos2 : Pos} (hc : X.calm = true) (hg : Gl X "list") (hm : X.mg "list" = none) (hg2 : Gl X "range") (hm2 : X.mg "range" = none) (ha : PA X [a, b, c] ta)
    (na : starEach [(.Call (.Name "range" p2) [a, b, c] [] pos2)] X.env = (false, eval (.Call (.Name "range" p2) [a, b, c] [] pos2) X.env) :: starEach [] X.env := by rfl)
    (hs : starEach [a, b, c] X.env = (false, eval a X.env) :: starEach [b, c] X.env := by rfl) (hpl : (backTo pos2 (starEach [b, c] X.env)).any (·.1) = false := by rfl) :
    PE X (.Call (.Name "list" p) [.Call (.Name "range" p2) [a, b, c] [] pos2] [] pos) (tLstRg3 ta) := by
  refine ⟨fun pins s σ H Q I h => ?_⟩
  have inner : wpAny (model X.prog X.w) X.A (eval (.Call (.Name "range" p2) [a, b, c] [] pos2) X.env) (fun x s' => ∃ r i j k n t u v H', x = .ref r ∧ IsRange s'.heap r i j k t u v ∧ Inv X pins σ H' s' ∧ RgC i j k n ∧ n ≤ 2 ^ 24 ∧
      ∀ q, H' q = none → Q (.ref q) (upd H' q (.lst ((List.range n).map fun z => V.int (i + (z : Nat) * k))))) X.xe s := by
    refine Call_ (ld_blt I hg2 hm2 boot_range (PyProof.Rows.callWith_type1 (thn (ha.run pos2 pins s σ H _ I h) fun us s1 ⟨vs, H1, I1, r1, q1⟩ => ?_) hs hpl))
    obtain ⟨i, j, k, n, e, ⟨c0, c1, c2, c3⟩, hn, q⟩ := q1
    subst e
    cases r1 with
    | cons r rr =>
      cases rr with
      | cons r' rr =>
        cases rr with
        | cons r'' rr =>
          cases rr
          obtain ⟨t, rfl⟩ := r
          obtain ⟨t', rfl⟩ := r'
          obtain ⟨t'', rfl⟩ := r''
          refine call_range_3 c0 ?_ (.inl (PyProof.noPylong_small c1))
          exact ⟨_, i, j, k, n, _, _, _, H1, rfl, IsRange.new _ _ _ _ _ _ _, I1.kept (t' := s1.toks) fun b o e => Heap.get?_push_of_some _ e, ⟨c0, c1, c2, c3⟩, hn, q⟩
  refine Call_ (ld_blt I hg hm boot_list (PyProof.Rows.callWith_type1 (args_cons (thn inner fun x s1 ⟨r, i, j, k, n, t, u, v, H1, ex, hr, I1, ok, hn, q⟩ => args_nil ?_) na) na))
  subst ex
  obtain ⟨c0, c1, c2, c3⟩ := ok
  refine call_list_range (n := n) (I1.ok.hd hc) hr c2 c3 hn fun h' tk acc c' hk e' hi => ?_
  refine ⟨.ref s1.heap.objs.size, upd H1 s1.heap.objs.size (.lst ((List.range n).map fun z => V.int (i + (z : Nat) * k))), I1.laid hk (Nat.le_refl _) (show ObjOk X.prog X.w _ _ _ (.lst _) from ⟨?_, acc.toList, c', vals_rgC hi, ?_⟩), rfl, q _ (I1.hok.fresh (Nat.le_refl _))⟩
  · rw [List.length_map, List.length_range, sizeLine_eq]; omega
  · rw [Array.toArray_toList]; exact e'
/-- a range that is at hand -/
def iRngV (te : TE) : TI := fun σ H R => te σ H fun x H1 => ∃ r lo hi, x = .ref r ∧ H1 r = some (.rng lo hi) ∧ (-(2 ^ 62) ≤ lo ∧ lo < 2 ^ 62 ∧ -(2 ^ 62) ≤ hi ∧ hi < 2 ^ 62) ∧ R (Itr lo (hi - lo).toNat) H1
theorem pi_rngV {e : Expr} {te : TE} (he : PE X e te) : PI X tg e (iRngV te) := by
  refine ⟨fun pins s σ H R I h => ?_⟩
  refine thn (he.run pins s σ H _ I h) fun v s1 ⟨x, H1, I1, r1, q1⟩ => ?_
  obtain ⟨r, lo, hi, rfl, hr, ⟨h1, h2, h3, h4⟩, q⟩ := q1
  cases r1
  obtain ⟨t, u, v, eo⟩ := I1.hok r _ hr
  refine wpAny_pyIter_range (t := t) (u := u) (v := v) eo (small_one h1 h2 h3 h4) ?_
  refine ⟨s1.heap.objs.size, [s1.heap.objs.size], _, _, H1, rfl, I1.kept (t' := s1.toks) fun b o e => Heap.get?_push_of_some _ e, turn_range _ lo (hi - lo).toNat, ?_, fun b hb => ?_, q⟩
  · have e1 : lo + ((0 : Nat) : Int) * 1 = lo := by simp
    have e2 : (((hi - lo).toNat : Nat) : Int) - ((0 : Nat) : Int) = Builtin.Range.rangeSize lo hi 1 := by rw [rangeSize_one]; split <;> omega
    show IsRangeIter _ _ (lo + ((0 : Nat) : Int) * 1) ((((hi - lo).toNat : Nat) : Int) - ((0 : Nat) : Int)) 1
    rw [e1, e2]
    exact Heap.get?_push_size _ rfl
  · have e : b = s1.heap.objs.size := by simpa using hb
    subst e
    exact I1.fpOk (Nat.le_refl _) (I1.hok.fresh (Nat.le_refl _))
end
theorem rgC_two {b d : Nat} (hd : 2 ≤ d) (h : b + d < 2 ^ 30) : RgC (b : Int) (((b + d : Nat) : Int) - 1) 2 (d / 2) := by
  have e : Builtin.Range.rangeSize (b : Int) (((b + d : Nat) : Int) - 1) 2 = ((d / 2 : Nat) : Int) := by
    unfold Builtin.Range.rangeSize
    rw [if_pos (by decide), if_pos (by omega)]
    omega
  refine ⟨by decide, by decide, ?_, e⟩
  unfold Builtin.Range.small
  rw [e]
  simp only [Builtin.Range.rangeFitsLong, Bool.and_eq_true, Bool.or_eq_true, decide_eq_true_eq, beq_iff_eq, show (2 : Int) > 0 by decide, if_true]
  omega
end Loc

set_option linter.all false
/-! pieces of a row: peaks, stretches, cuts -/
namespace M10
def pk (ms : List Nat) (i : Nat) : Bool := match ms[i - 1]?, ms[i]?, ms[i + 1]? with
  | some a, some b, some c => decide (a < b) && decide (c < b)
  | _, _, _ => false
def pks (ms : List Nat) : List Nat := (List.range' 2 (ms.length - 3)).filter (pk ms)
theorem pk_no {ms : List Nat} {i : Nat} (h : pk ms i = true) : pk ms (i + 1) = false := by
  unfold pk at h ⊢
  rw [Nat.add_sub_cancel]
  cases h0 : ms[i - 1]? with
  | none => rw [h0] at h; exact absurd h (by simp)
  | some a =>
    cases h1 : ms[i]? with
    | none => simp [h0, h1] at h
    | some b =>
      cases h2 : ms[i + 1]? with
      | none => simp
      | some c =>
        rw [h0, h1, h2] at h
        simp only [Bool.and_eq_true, decide_eq_true_eq] at h
        cases h3 : ms[i + 1 + 1]? with
        | none => simp
        | some d =>
          simp only [Bool.and_eq_false_iff, decide_eq_false_iff_not]
          omega
def Gap (n : Nat) : Nat → List Nat → Prop
  | b, [] => b + 2 ≤ n
  | b, t :: r => b + 2 ≤ t ∧ Gap n t r
theorem gap_filter {p : Nat → Bool} (hp : ∀ i, p i = true → p (i + 1) = false) (n : Nat) : ∀ k s b, (b + 2 ≤ s ∨ (b + 1 ≤ s ∧ p s = false)) → s + k + 1 ≤ n → b + 2 ≤ n → Gap n b ((List.range' s k).filter p)
  | 0, s, b, _, _, h => h
  | k + 1, s, b, h1, h2, h3 => by
    rw [List.range'_succ]
    cases e : p s with
    | true =>
      rw [List.filter_cons_of_pos e]
      refine ⟨?_, gap_filter hp n k (s + 1) s (.inr ⟨Nat.le_refl _, hp s e⟩) (by omega) (by omega)⟩
      rcases h1 with h1 | ⟨_, h1⟩
      · exact h1
      · rw [e] at h1; cases h1
    | false =>
      rw [List.filter_cons_of_neg (by rw [e]; simp)]
      exact gap_filter hp n k (s + 1) b (.inl (by rcases h1 with h1 | h1 <;> omega)) (by omega) h3
theorem pks_gap {ms : List Nat} (h : 2 ≤ ms.length) : Gap ms.length 0 (pks ms) := by
  unfold pks
  by_cases z : ms.length ≤ 3
  · rw [show ms.length - 3 = 0 by omega]
    exact h
  · exact gap_filter (p := pk ms) (fun i h => pk_no h) ms.length (ms.length - 3) 2 0 (.inl (Nat.le_refl _)) (by omega) h
/-- the pieces of the stretch of d nodes from b on -/
def str : Nat → Nat → List (Nat × Nat)
  | d + 4, b => (b, b + 2) :: str (d + 2) (b + 2)
  | d, b => [(b, b + d)]
def stz (z : Nat × Nat) : List (Nat × Nat) := str (z.2 - z.1) z.1
def sts (n : Nat) : Nat → List Nat → List (Nat × Nat)
  | b, [] => [(b, n)]
  | b, t :: r => (b, t) :: sts n t r
def pcs (n : Nat) (tops : List Nat) : List (Nat × Nat) := (sts n 0 tops).flatMap stz
theorem sts_fst (n : Nat) : ∀ b tops, (sts n b tops).map (·.1) = b :: tops
  | b, [] => rfl
  | b, t :: r => by rw [sts, List.map_cons, sts_fst n t r]
theorem sts_snd (n : Nat) : ∀ b tops, (sts n b tops).map (·.2) = tops ++ [n]
  | b, [] => rfl
  | b, t :: r => by rw [sts, List.map_cons, sts_snd n t r]; rfl
theorem sts_gap {n : Nat} : ∀ {b : Nat} {tops : List Nat}, Gap n b tops → ∀ z ∈ sts n b tops, z.1 + 2 ≤ z.2 ∧ z.2 ≤ n
  | b, [], h, z, hz => by
    have : z = (b, n) := by simpa [sts] using hz
    rw [this]
    exact ⟨h, Nat.le_refl _⟩
  | b, t :: r, h, z, hz => by
    have le : ∀ {b : Nat} {r : List Nat}, Gap n b r → b ≤ n := by
      intro b r
      induction r generalizing b with
      | nil => intro h; have : b + 2 ≤ n := h; omega
      | cons t r ih => intro h; have := ih h.2; have := h.1; omega
    rcases List.mem_cons.mp hz with e | hz
    · rw [e]
      exact ⟨h.1, le h.2⟩
    · exact sts_gap h.2 z hz
def Cont : Nat → Nat → List (Nat × Nat) → Prop
  | b, n, [] => b = n
  | b, n, z :: r => z.1 = b ∧ b + 2 ≤ z.2 ∧ z.2 ≤ b + 3 ∧ Cont z.2 n r
theorem str_cont : ∀ d b, 2 ≤ d → Cont b (b + d) (str d b)
  | 0, _, h => by omega
  | 1, _, h => by omega
  | 2, b, _ => ⟨rfl, Nat.le_refl _, by show b + 2 ≤ b + 3; omega, rfl⟩
  | 3, b, _ => ⟨rfl, by show b + 2 ≤ b + 3; omega, Nat.le_refl _, rfl⟩
  | d + 4, b, _ => by
    refine ⟨rfl, Nat.le_refl _, by show b + 2 ≤ b + 3; omega, ?_⟩
    have := str_cont (d + 2) (b + 2) (by omega)
    rw [show b + (d + 4) = b + 2 + (d + 2) by omega]
    exact this
theorem Cont.app : ∀ {xs ys : List (Nat × Nat)} {b t n : Nat}, Cont b t xs → Cont t n ys → Cont b n (xs ++ ys)
  | [], _, b, t, n, h, k => by have h : b = t := h; rw [h]; exact k
  | z :: r, ys, b, t, n, h, k => ⟨h.1, h.2.1, h.2.2.1, Cont.app h.2.2.2 k⟩
theorem sts_cont {n : Nat} : ∀ {b : Nat} {tops : List Nat}, Gap n b tops → Cont b n ((sts n b tops).flatMap stz)
  | b, [], h => by
    have h : b + 2 ≤ n := h
    show Cont b n (stz (b, n) ++ [])
    rw [List.append_nil]
    have := str_cont (n - b) b (by omega)
    rw [show b + (n - b) = n by omega] at this
    exact this
  | b, t :: r, h => by
    rw [sts, List.flatMap_cons]
    have := str_cont (t - b) b (by have := h.1; omega)
    rw [show b + (t - b) = t by have := h.1; omega] at this
    exact Cont.app this (sts_cont h.2)
theorem Cont.ends : ∀ {r : List (Nat × Nat)} {z : Nat × Nat} {b n : Nat}, Cont b n (z :: r) → r.map (·.1) ++ [n] = (z :: r).map (·.2)
  | [], z, b, n, h => by have := h.2.2.2; have this : z.2 = n := this; simp [this]
  | y :: r, z, b, n, h => by
    have := Cont.ends (r := r) (z := y) h.2.2.2
    have e : y.1 = z.2 := h.2.2.2.1
    rw [List.map_cons, List.cons_append, this, e]
    rfl
theorem Cont.bnd : ∀ {r : List (Nat × Nat)} {b n : Nat}, Cont b n r → b ≤ n ∧ ∀ z ∈ r, z.1 + 2 ≤ z.2 ∧ z.2 ≤ z.1 + 3 ∧ z.2 ≤ n
  | [], b, n, h => ⟨Nat.le_of_eq h, fun z hz => nomatch hz⟩
  | y :: r, b, n, h => by
    have k := Cont.bnd h.2.2.2
    have := h.1
    have := h.2.1
    have := h.2.2.1
    refine ⟨by omega, fun z hz => ?_⟩
    rcases List.mem_cons.mp hz with e | hz
    · rw [e]; omega
    · exact k.2 z hz
theorem Cont.len : ∀ {r : List (Nat × Nat)} {b n : Nat}, Cont b n r → b + 2 * r.length ≤ n
  | [], b, n, h => Nat.le_of_eq h
  | y :: r, b, n, h => by
    have k := Cont.len h.2.2.2
    have := h.2.1
    rw [List.length_cons]
    omega
theorem str_fst : ∀ d b, 2 ≤ d → (str d b).map (·.1) = (List.range (d / 2)).map fun k => b + k * 2
  | 0, _, h => by omega
  | 1, _, h => by omega
  | 2, b, _ => rfl
  | 3, b, _ => rfl
  | d + 4, b, _ => by
    have := str_fst (d + 2) (b + 2) (by omega)
    rw [str, List.map_cons, this, show (d + 4) / 2 = (d + 2) / 2 + 1 by omega, List.range_succ_eq_map, List.map_cons, List.map_map]
    have e : (List.map (fun k => b + 2 + k * 2) (List.range ((d + 2) / 2))) = List.map ((fun k => b + k * 2) ∘ Nat.succ) (List.range ((d + 2) / 2)) := List.map_congr_left fun k _ => by
      show b + 2 + k * 2 = b + (k + 1) * 2
      omega
    rw [e]
    simp
end M10

set_option Elab.async false
set_option linter.all false
set_option maxRecDepth 100000
namespace Loc
open PySem PySem.Spec PyProof.Rows L2
/-! ### l.extend(t), t a tuple -/
theorem ext_tup (l b : Addr) (xs ys : Array Value) (n n2 : Nat) (dd : Option Addr) (sl : Array (Option Value)) (h1 : ¬ (!xs.isEmpty && Builtin.List.listTooLong (xs.size + ys.size)) = true) (h2 : xs.size ≤ sizeLine) (h3 : xs.size + ys.size ≤ sizeLine + 1) :
    Meets (Builtin.«list.extend» ⟨[.ref l, .ref b], []⟩) (fun _ R s => s.heap.get? l = some { cls := .type "list", dict := none, data := .seq xs n, slots := #[] } ∧ s.heap.get? b = some { cls := .type "tuple", dict := dd, data := .seq ys n2, slots := sl } ∧
      R (.ok (.ret Value.none)) { s with heap := s.heap.update l (Obj.mapSeq fun x => x ++ ys), toks := s.toks }) := .of_wp fun prog w A R s h => by
  obtain ⟨hp, g, d, tk, os⟩ := s
  obtain ⟨hl, hb, h⟩ := h
  have f2 := sub_tuple_tuple
  have f3 := sub_list_list
  have f4 := sub_tuple_list
  have f5 := sub_list_tuple
  have z : (xs ++ ys).size ≤ sizeLine + 1 := by rw [Array.size_append]; exact h3
  wp_walk using (wpAny_updateSeq hl rfl (hz := h2) (_hz' := z)), wpAny_loadPart' hl, wpAny_loadPart' hb
  exact ⟨_, rfl, h⟩
section
variable {X : Cx}
def rExtendT (K : PySem.W.Frag) : V → List V → Hp → VK → Prop := fun x vs H Q => ∃ l b xs zs, x = .ref l ∧ vs = [.ref b] ∧ H l = some (.lst xs) ∧ SqT K H b zs ∧ xs.length + zs.length ≤ sizeLine ∧ Q .non (upd H l (.lst (xs ++ zs)))
theorem mt_extendT : MtM X "list.extend" (rExtendT X.K) := by
  intro pins s σ H x vs v us Q I rx rv h
  obtain ⟨l, b, xs, zs, rfl, rfl, hH, hB, hz, q⟩ := h
  cases rx
  obtain ⟨u, rfl, ru⟩ := rv.one
  cases ru
  obtain ⟨z, its, n, r, hl, e⟩ := I.lstM hH
  obtain ⟨its2, r2, p2, z2⟩ := I.tuple hB
  have hl2 := r2.length
  have hsz : its.toArray.size + its2.toArray.size ≤ sizeLine := by rw [List.size_toArray, List.size_toArray]; omega
  have hlong : ¬ (!its.toArray.isEmpty && Builtin.List.listTooLong (its.toArray.size + its2.toArray.size)) = true := by
    rw [notLongL hsz, Bool.and_false]
    exact Bool.false_ne_true
  obtain ⟨⟨cls, dd, data, sl⟩, ho, hc, n2, hd⟩ := id p2
  simp only at hc hd
  subst hc hd
  refine call_meets F.slot_list_extend ⟨_, e, rfl⟩ F.entry_list_extend (F.args_list_extend_2 _ _)
    (ext_tup l b its.toArray its2.toArray n n2 dd sl hlong (by rw [List.size_toArray]; omega) (by omega)) ⟨e, ho, ?_⟩
  refine ⟨.non, _, I.lset (its' := its ++ its2) hH e (by simp) (r.append r2) ?_, rfl, q⟩
  rw [List.length_append]
  omega
end
end Loc

set_option Elab.async false
set_option linter.all false
set_option maxRecDepth 100000
set_option maxHeartbeats 4000000
namespace Loc
open PySem PySem.Spec PyProof.Rows L2
theorem tuple_mul1 (l : Addr) (items : Array Value) (n : Nat) (dd : Option Addr) (sl : Array (Option Value)) (u : Tok) :
    Meets (Builtin.«tuple.__mul__» ⟨[.ref l, .int 1 u], []⟩) (fun _ R s => s.heap.get? l = some { cls := .type "tuple", dict := dd, data := .seq items n, slots := sl } ∧ R (.ok (.ret (Value.ref l))) s) :=
  .of_wp fun prog w A R s h => by
    obtain ⟨hp, g, d, tk, os⟩ := s
    obtain ⟨hl, h⟩ := h
    have f1 := AutoSeq1.idx_int
    wp_walk using wpAny_loadPart' hl
    exact ⟨_, rfl, h⟩
def rRepT1 (K : PySem.W.Frag) : R2 := fun x y H Q => ∃ l k xs, x = .ref l ∧ y = .int k ∧ SqT K H l xs ∧ xs ≠ [] ∧ 1 ≤ k ∧ k ≤ 1000 ∧ xs.length ≤ 1000 ∧ ∀ H' p, Same H H' → SqT K H' p (List.replicate k.toNat xs).flatten → Q (.ref p) H'
theorem op_repT1 {X : Cx} : OpR X (binaryOp .Mult) (rRepT1 X.K) := by
  intro pins s σ H x y v u Q I rx ry h
  obtain ⟨l, k, xs, rfl, rfl, hT, hne, h1, h2, hz, q⟩ := h
  by_cases k1 : k = 1
  · subst k1
    cases rx
    obtain ⟨t, rfl⟩ := ry
    obtain ⟨its, r, ⟨⟨cls, dd, data, sl⟩, ho, hc, n, hd⟩, hs⟩ := I.tuple hT
    simp only at hc hd
    subst hc hd
    refine wpAny_binaryOp_repeat_ref (T := "tuple") (U := "int") (by decide) ⟨_, ho, rfl⟩ (fun s' => typeIs_int s' 1 t) noFill_tuple_mul PySem.F.fills_int_mul PySem.F.slot_int_rmul repeat_tuple PySem.F.slot_int_index.lookup
      (call_meets PySem.F.slot_int_rmul (typeIs_int s 1 t) PySem.F.entry_int_rmul (PySem.F.args_int_rmul_2 _ _) (int_rmul_tuple 1 t l its.toArray n dd sl)
        ⟨ho, rfl, ⟨_, ho, rfl⟩, call_meets PySem.F.slot_tuple_mul ⟨_, ho, rfl⟩ PySem.F.entry_tuple_mul (PySem.F.args_tuple_mul_2 _ _) (tuple_mul1 l its.toArray n dd sl t) ⟨ho, ?_⟩⟩)
    refine ⟨.ref l, H, I, rfl, q H l (Same.refl H) ?_⟩
    rw [show (1 : Int).toNat = 1 from rfl]
    simpa using hT
  · exact op_repT pins s σ H _ _ v u Q I rx ry ⟨l, k, xs, rfl, rfl, hT, hne, by omega, h2, hz, fun p hp => q _ p (sameN hp) (.inl (.inl upd_same))⟩
end Loc

set_option Elab.async false
set_option linter.all false
set_option maxRecDepth 100000
set_option maxHeartbeats 4000000
namespace Loc
open PySem PySem.Spec PyProof.Rows L2
open AutoSeq1 (wpAny_loadPart')
/-! ### enumerate(t), t a tuple -/
theorem meets_enum_newT (l : Addr) (items : Array Value) (n : Nat) (dct : Option Addr) (sl : Array (Option Value)) :
    Meets (Builtin.«enumerate.__new__» ⟨[.type "enumerate", .ref l], []⟩) (fun _ R s => s.heap.get? l = some { cls := .type "tuple", dict := dct, data := .seq items n, slots := sl } ∧
      R (.ok (.ret (.ref (s.heap.push { cls := .type "tuple_iterator", data := .fields #[.ref l, .int 0 0] }).objs.size)))
        { s with heap := (s.heap.push { cls := .type "tuple_iterator", data := .fields #[.ref l, .int 0 0] }).push { cls := .type "enumerate", data := .fields #[.none, .bool false, .ref s.heap.objs.size, rawInt 0, .none, .none] } }) :=
  .of_wp fun prog w A R s h => by
    obtain ⟨hp, g, d, tk, os⟩ := s
    obtain ⟨hl, h⟩ := h
    have hsub := sub_enumerate
    have hL : Heap.IsTuple (Shared.heap ⟨hp, g, d, tk, os⟩) l items := ⟨_, hl, rfl, n, rfl⟩
    wp_walk using wpAny_loadPart' hl
    refine wpAny_stack_any fun st => wpAny_pure ?_
    split
    · rename_i c _ _ _ _ _
      cases (c == Value.type "enumerate")
      · wp_walk using wpAny_loadPart' hl, wpAny_pyIter_tuple hL
        exact ⟨_, rfl, h⟩
      · wp_walk using wpAny_loadPart' hl, wpAny_pyIter_tuple hL
        exact ⟨_, rfl, h⟩
    · wp_walk using wpAny_loadPart' hl, wpAny_pyIter_tuple hL
      exact ⟨_, rfl, h⟩
section
variable {prog : Program} {w : World} {A : Around} {E : Value → Shared → Prop} {s : Shared}
theorem call_enum_tup {l : Addr} {items : Array Value} {Q : Value → Shared → Prop} (hL : s.heap.IsTuple l items)
    (h : ∀ h', IsEnum h' (s.heap.objs.size + 1) s.heap.objs.size 0 .none → h'.IsTupleIter s.heap.objs.size l 0 → h'.objs.size = s.heap.objs.size + 2 →
      (∀ b o, s.heap.get? b = some o → h'.get? b = some o) → Q (.ref (s.heap.objs.size + 1)) { s with heap := h' }) :
    wpAny (model prog w) A (call (.type "enumerate") [.ref l]) Q E s := by
  obtain ⟨⟨c, dct, dt, sl⟩, hl, hc, n, hd⟩ := hL
  replace hc : c = .type "tuple" := hc
  replace hd : dt = .seq items n := hd
  subst hc hd
  refine callType_new PySem.F.called_enumerate (by decide) (PySem.F.typeCall_enumerate_1 _) (PySem.F.newCall_enumerate_1 _) (fun obj => PySem.F.args_object_init_2 obj _) PySem.F.entry_enumerate_new
    (meets_enum_newT l items n dct sl) ⟨hl, ?_⟩
  have hz : (s.heap.push { cls := .type "tuple_iterator", data := .fields #[.ref l, .int 0 0] }).objs.size = s.heap.objs.size + 1 := Heap.size_push ..
  show _ ∧ _
  rw [hz]
  have he : IsEnum ((s.heap.push { cls := .type "tuple_iterator", data := .fields #[.ref l, .int 0 0] }).push
      { cls := .type "enumerate", data := .fields #[.none, .bool false, .ref s.heap.objs.size, rawInt 0, .none, .none] }) (s.heap.objs.size + 1) s.heap.objs.size 0 .none := by
    have := Heap.get?_push_size (s.heap.push { cls := .type "tuple_iterator", data := .fields #[.ref l, .int 0 0] })
      (o := { cls := .type "enumerate", data := .fields #[.none, .bool false, .ref s.heap.objs.size, rawInt 0, .none, .none] }) rfl
    rw [hz] at this; exact this
  refine ⟨⟨_, he, rfl⟩, h _ he ⟨_, Heap.get?_push_of_some _ (Heap.get?_push_size _ rfl), rfl, rfl⟩ (by rw [Heap.size_push, hz]) fun b o x => Heap.get?_push_of_some _ (Heap.get?_push_of_some _ x)⟩
end
theorem enumT_end {prog : Program} {w : World} {A : Around} {E : Value → Shared → Prop} {s : Shared} {e it l : Addr} {i : Nat} {items : Array Value} {old : Value} {Q : Option Value → Shared → Prop} (hh : A.handled = none)
    (he : IsEnum s.heap e it i old) (hit : s.heap.IsTupleIter it l i) (hl : s.heap.IsTuple l items) (hx : items[i]? = none)
    (hQ : ∀ h', Heap.ExtBut it s.heap h' → Q none { s with heap := h' }) : wpAny (model prog w) A (pyNext (.ref e)) Q E s := by
  have hT : s.TypeIs (.ref e) "enumerate" := ⟨_, he, rfl⟩
  unfold pyNext
  refine wpAny_bind (wpAny_attempt (wpAny_callSpecial?_slot (name := Str.ofString "__next__") hT PySem.F.slot_enumerate_next
    (wpAny_call_entry PySem.F.slot_enumerate_next hT PySem.F.entry_enumerate_next ?_ (PySem.F.args_enumerate_next_1 _))))
  show wpAny _ _ (field (.ref e) 2 >>= _) _ _ _
  refine wpAny_bind (wpAny_field he rfl (x := .ref it) rfl ?_)
  refine wpAny_bind (wpAny_nextOf_tuple_end hh hit hl hx fun h' x he' hx' => ?_)
  obtain ⟨o, ho, hc⟩ := hx'
  refine wpAny_bind (wpAny_isInstance (T := "StopIteration") (b := true) ⟨o, ho, hc⟩ isSubtype_stop ?_)
  exact wpAny_pure (hQ _ he')
/-- the tuple at a, each item in a new pair -/
def IteT (K : PySem.W.Frag) (a : Addr) : It :=
  ⟨fun i H => ∃ (xs : List V) (x : V), SqT K H a xs ∧ xs[i]? = some x, fun i H v H' => ∃ T x, v = .ref T ∧ H T = none ∧ H' = upd H T (.tup [.int (i : Nat), x]) ∧ ∀ xs, SqT K H a xs → xs[i]? = some x, fun i H => ∃ xs : List V, SqT K H a xs ∧ xs.length ≤ i⟩
theorem turn_enumT {P : Program} {w : World} {K : PySem.W.Frag} {elts : List Expr} {kk : Nat} {tpos : Pos} (a e it : Addr) :
    Turn P w K (.Tuple elts kk tpos) (IteT K a) [e, it] e (fun i h => (∃ old, IsEnum h e it ((i : Nat) : Int) old) ∧ h.IsTupleIter it a i ∧ e ≠ it ∧ a ≠ it ∧ a ≠ e) where
  mem := by simp
  obj := fun i h st b hb => by
    obtain ⟨⟨old, he⟩, ⟨o, ho, hc, hd⟩, _⟩ := st
    have e' : b = e ∨ b = it := by simpa using hb
    rcases e' with z | z
    · rw [z]; exact ⟨_, he, fun v q => nomatch q⟩
    · rw [z]; exact ⟨o, ho, fun v q => by rw [hd] at q; cases q⟩
  keep := fun i h h' st k => let ⟨⟨old, he⟩, hi, hne⟩ := st; ⟨⟨old, k e (by simp) _ he⟩, hi.at fun o q => k it (by simp) o q, hne⟩
  item := by
    intro X hP hw hK hc i pins s σ H E I hf st hg
    subst hP hw hK
    obtain ⟨⟨old, he⟩, hit, hne, hai, hae⟩ := st
    obtain ⟨xs, x, hq, hx⟩ := hg
    obtain ⟨its, rv, p, hz⟩ := I.tuple hq
    obtain ⟨u, hu, ru⟩ := rv.get hx
    have hel : e < s.heap.objs.size := Heap.lt_size he
    have hil : it < s.heap.objs.size := by obtain ⟨_, q, _⟩ := hit; exact Heap.lt_size q
    have pT : s.heap.IsTuple a its.toArray := p
    have hlt : i < its.toArray.size := by
      have := (List.getElem?_eq_some_iff.mp hu).1
      simpa using this
    refine wpAny_pyNext_enum_itemD (Draws.tuple (A := X.A.in1) (by first | exact I.ok.hd hc | exact (I.ok.hd hc)) it a hai its.toArray) he ⟨hit, pT⟩ hlt hne (by simp [hne, hae.symm]) fun x' h' tk hx' ho hst' hT hsz hk => ?_
    have ex : x' = u := by
      have : its.toArray[i]? = some u := by simpa using hu
      exact Option.some.inj (hx'.symm.trans this)
    subst ex
    refine ⟨_, rfl, wpAny_letOwnedTupleGo_enum (s := { s with heap := h', toks := tk + 1 }) ho fun h'' he' sb => ?_⟩
    have hT2 : h''.get? s.heap.objs.size = some { cls := .type "tuple", data := .seq #[.int i tk, x'] } := (sb.2 _ (Nat.ne_of_gt hel)).trans hT
    have new : ObjOk X.prog X.w (upd H s.heap.objs.size (.tup [.int (i : Nat), x])) h'' s.heap.objs.size (.tup [.int (i : Nat), x]) :=
      ⟨by show 2 ≤ sizeLine; decide, [.int i tk, x'], .cons ⟨_, rfl⟩ (.cons ru .nil), ⟨_, hT2, rfl, _, rfl⟩⟩
    have I1 : Inv X pins σ (upd H s.heap.objs.size (.tup [.int (i : Nat), x])) { s with heap := h'', toks := tk + 1 } :=
      I.turnedNew (ch := [e, it]) (fun b ob hb q => (sb.2 b (fun z => hb (by simp [z]))).trans (hk b ob (fun z => hb (by simp [z])) (fun z => hb (by simp [z])) q)) hf (Nat.le_refl _) new
    refine ⟨.ref s.heap.objs.size, _, I1, rfl, ⟨_, x, rfl, I.hok.fresh (Nat.le_refl _), rfl, fun ys hy => by rw [I.tuple_inj hy hq]; exact hx⟩, ⟨⟨x', ?_⟩, hst'.1.at fun o q => (sb.2 it (Ne.symm hne)).trans q, hne, hai, hae⟩, fun b hb => ?_⟩
    · have e1 : ((i + 1 : Nat) : Int) = (i : Int) + 1 := by omega
      rw [e1]; exact he'
    · have hb' : b < s.heap.objs.size := by
        have e' : b = e ∨ b = it := by simpa using hb
        rcases e' with z | z
        · rw [z]; exact hel
        · rw [z]; exact hil
      rw [upd_ne (Nat.ne_of_lt hb')]
      exact (hf b hb).1
  done := by
    intro X hP hw hK hc i pins s σ H E I hf st hg
    subst hP hw hK
    obtain ⟨⟨old, he⟩, hit, hne, hai, hae⟩ := st
    obtain ⟨xs, hq, hx⟩ := hg
    obtain ⟨its, rv, p, hz⟩ := I.tuple hq
    obtain ⟨f0, f1, f2, f3, f4, f5⟩ := hf it (by simp)
    have hl := rv.length
    have pT : s.heap.IsTuple a its.toArray := p
    exact enumT_end (I.ok.hd hc) he hit pT (by simp; omega) fun h' eb => ⟨rfl, I.turned (t' := s.toks) (fun b o hb q => eb b o hb q) f0 f1 f3 f4 f5⟩
  self := fun A i s Q E st h => let ⟨⟨_, he⟩, _⟩ := st; wpAny_pyIter_enum he h
def iEnumT (K : PySem.W.Frag) (ta : TA) : TI := fun σ H R => ta σ H fun vs H1 => ∃ a xs, vs = [.ref a] ∧ SqT K H1 a xs ∧ R (IteT K a) H1
theorem pi_enumT {X : Cx} {e : Expr} {ta : TA} {p pos tpos : Pos} {elts : List Expr} {kk : Nat} (hg : Gl X "enumerate") (hm : X.mg "enumerate" = none) (ha : PA X [e] ta) (hs : starEach [e] X.env = [(false, eval e X.env)] := by rfl) :
    PI X (.Tuple elts kk tpos) (.Call (.Name "enumerate" p) [e] [] pos) (iEnumT X.K ta) := by
  refine ⟨fun pins s σ H R I h => ?_⟩
  refine Call_ (ld_blt I hg hm boot_enumerate (PyProof.Rows.callWith_type1 (thn (ha.run pos pins s σ H _ I h) fun us s1 ⟨vs, H1, I1, r1, q1⟩ => ?_) hs rfl))
  obtain ⟨a, xs, ex, hq, q⟩ := q1
  subst ex
  cases r1 with
  | cons r rr =>
    cases rr
    cases r
    obtain ⟨its, rv, p', hz⟩ := I1.tuple hq
    have pT : s1.heap.IsTuple a its.toArray := p'
    have al : a < s1.heap.objs.size := by obtain ⟨_, q, _⟩ := pT; exact Heap.lt_size q
    refine call_enum_tup pT fun h' he hit hsz hk => wpAny_pyIter_enum he ?_
    have I2 : Inv X pins σ H1 { s1 with heap := h' } := I1.kept (t' := s1.toks) hk
    refine ⟨s1.heap.objs.size + 1, [s1.heap.objs.size + 1, s1.heap.objs.size], _, _, H1, rfl, I2, turn_enumT a (s1.heap.objs.size + 1) s1.heap.objs.size, ⟨⟨.none, he⟩, hit, Nat.succ_ne_self _, Nat.ne_of_lt al, Nat.ne_of_lt (Nat.lt_succ_of_lt al)⟩, fun b hb => ?_, q⟩
    have e' : b = s1.heap.objs.size + 1 ∨ b = s1.heap.objs.size := by simpa using hb
    have hle : s1.heap.objs.size ≤ b := by
      rcases e' with z | z
      · rw [z]; exact Nat.le_add_right _ _
      · rw [z]; exact Nat.le_refl _
    exact I1.fpOk hle (I1.hok.fresh hle)
/-- for i, x in enumerate(t), t a tuple that stays -/
theorem for_enumT {K : PySem.W.Frag} {a : Addr} {xs : List V} {g : TG} {tb : TS} {D : Ends} {σ : L2.St} {H : Hp} (Pv : Nat → L2.St → Hp → Prop) (h0 : Pv 0 σ H) (hl : ∀ i σ H, Pv i σ H → SqT K H a xs)
    (hs : ∀ i x T σ H1, xs[i]? = some x → Pv i σ H1 → H1 T = none → g (.ref T) σ (upd H1 T (.tup [.int (i : Nat), x])) fun σ2 H2 => tb { nx := Pv (i + 1), rt := D.rt, bk := D.nx, ct := Pv (i + 1) } σ2 H2)
    (hd : ∀ i σ H', Pv i σ H' → xs.length ≤ i → D.nx σ H') :
    ∃ W : Nat → Nat → L2.St → Hp → Prop, (∃ m, W 0 m σ H) ∧ ∀ i m σ H, W i m σ H →
      ((IteT K a).stop i H ∧ D.nx σ H) ∨ ((IteT K a).go i H ∧ ∃ N : L2.St → Hp → Prop, (∀ σ' H', N σ' H' → ∃ m', m' < m ∧ W (i + 1) m' σ' H') ∧ ∀ x H', (IteT K a).yld i H x H' → g x σ H' fun σ2 H2 => tb { nx := N, rt := D.rt, bk := D.nx, ct := N } σ2 H2) := by
  refine ⟨fun i m σ H => m = xs.length - i ∧ Pv i σ H, ⟨_, rfl, h0⟩, ?_⟩
  rintro i m σ H ⟨rfl, p⟩
  have k1 := hl i σ H p
  by_cases c : i < xs.length
  · obtain ⟨x, gx⟩ := get_of c
    refine .inr ⟨⟨xs, x, k1, gx⟩, Pv (i + 1), fun σ' H' p' => ⟨xs.length - (i + 1), by omega, rfl, p'⟩, fun z H' hy => ?_⟩
    obtain ⟨T, x', rfl, hT, rfl, f1⟩ := hy
    have ex : x' = x := Option.some.inj ((f1 _ k1).symm.trans gx)
    subst ex
    exact hs i _ T σ H gx p hT
  · exact .inl ⟨⟨xs, k1, by omega⟩, hd i σ H p (by omega)⟩
end Loc

set_option Elab.async false
set_option linter.all false
set_option maxRecDepth 100000
namespace Loc
open PySem PySem.Spec PyProof.Rows L2
/-! ### a call of a def that is entered while no repr is under way -/
section
variable {X : Cx} {CX : CXT} {k : Nat} {f : Addr} {fd : FuncData} {ps : List Str} {sp : Sp} {dvs : List V} {ds : List Value} {E : XK} {x : Str} {p pos : Pos} {e : Expr} {es : List Expr} {t : TA}
theorem run_fnG {pins : List (Addr × Obj)} {σ : L2.St} {H : Hp} {s : Shared} {Q : VK} {us : List Value} {vs : List V} (F : FnG X.prog X.w X.K X.mg X.base CX k f fd ps sp) (hg : X.A.guards = some []) (hr : Room k X.A) (hb : Binds X.K fd ps ds) (hd : Vals dvs ds) (hx : Passes CX X E)
    (I : Inv X pins σ H s) (r : Vals vs us) (h : sp (vs ++ dvs) H Q E) : wpAny (model X.prog X.w) X.A (call (.ref f) us) (EP X pins σ Q) X.xe s := by
  have r2 : Vals (vs ++ dvs) (us ++ ds) := r.append hd
  have hl : (us ++ ds).length = ps.length := by rw [← r2.length]; exact F.cnt h
  refine wpAny_call (codeAny_mono (F.go (out := X.stack) (ar := ⟨us, []⟩) hg hr I.env0 (hb s us I.kIn hl) r2 h) fun r s' hq => ?_)
  cases r with
  | error e => exact hx pins σ H s e s' I hq
  | ok fl =>
    cases fl with
    | ret u => exact I.after hq
    | next => exact False.elim hq
    | brk => exact False.elim hq
    | cont => exact False.elim hq
theorem pe_callG (F : FnG X.prog X.w X.K X.mg X.base CX k f fd ps sp) (gg : X.A.guards = some []) (hr : Room k X.A) (hg : Gl X x) (hm : X.mg x = some (.ref f)) (hk : PySem.W.keepIn X.K (.ref f) = true) (hb : Binds X.K fd ps ds) (hd : Vals dvs ds) (hx : Passes CX X E)
    (ha : PA X (e :: es) t) (hdb : (x == ("__debug__" : Str)) = false := by decide) (he : starEach (e :: es) X.env = (false, eval e X.env) :: starEach es X.env := by rfl) (hpl : (backTo pos (starEach es X.env)).any (·.1) = false := by rfl) :
    PE X (.Call (.Name x p) (e :: es) [] pos) (tCall sp dvs E t) := by
  refine ⟨fun pins s σ H Q I h => ?_⟩
  refine wpAny_Call_Name_kw (ld_glob I hg hm ?_ hdb)
  refine PySem.W.callWith_K (h₀ := X.base) I.ok.mod.kin hk (thn (ha.run pos pins s σ H _ I h) fun us s1 ⟨vs, H1, I1, r, q⟩ => ⟨I1.kIn, ?_⟩) he hpl
  exact run_fnG F gg hr hb hd hx I1 r q
end
/-! ### [.. for i, x in enumerate(xs)], xs a list that stays -/
theorem lc_enum {K : PySem.W.Frag} {a : Addr} {xs : List V} {g : TG} {tt : TT} {te : TE} {vs : List Nat} {σ : L2.St} {H1 : Hp} {D : Addr} {Qd : Hp → Prop} (Pv : Nat → Hp → Prop)
    (h0 : Pv 0 (upd H1 D (.lst []))) (hl : ∀ i H, Pv i H → SqL K H a xs)
    (hs : ∀ i x T H, xs[i]? = some x → Pv i H → H T = none → g (.ref T) (wipe σ vs) (upd H T (.tup [.int (i : Nat), x])) fun σ2 H2 => wipe σ2 vs = wipe σ vs ∧ tt σ2 H2 fun k H3 =>
      if k = true then te σ2 H3 fun z H4 => ∃ acc, H4 D = some (.lst acc) ∧ acc.length < sizeLine ∧ Pv (i + 1) (upd H4 D (.lst (acc ++ [z]))) else Pv (i + 1) H3)
    (hd : ∀ i H, Pv i H → xs.length ≤ i → Qd H) :
    ∃ W : Nat → Nat → Hp → Prop, (∃ m, W 0 m (upd H1 D (.lst []))) ∧ ∀ i m H, W i m H →
      ((Ite K a).stop i H ∧ Qd H) ∨ ((Ite K a).go i H ∧ ∃ Nx : Hp → Prop, (∀ H', Nx H' → ∃ m', m' < m ∧ W (i + 1) m' H') ∧ ∀ x H', (Ite K a).yld i H x H' → g x (wipe σ vs) H' fun σ2 H2 => wipe σ2 vs = wipe σ vs ∧ tt σ2 H2 fun k H3 =>
        if k = true then te σ2 H3 fun y H4 => ∃ acc, H4 D = some (.lst acc) ∧ acc.length < sizeLine ∧ Nx (upd H4 D (.lst (acc ++ [y]))) else Nx H3) := by
  refine ⟨fun i m H => m = xs.length - i ∧ Pv i H, ⟨_, rfl, h0⟩, ?_⟩
  rintro i m H ⟨rfl, p⟩
  have k1 := hl i H p
  by_cases c : i < xs.length
  · obtain ⟨x, gx⟩ := get_of c
    refine .inr ⟨⟨xs, x, k1, gx⟩, Pv (i + 1), fun H' p' => ⟨xs.length - (i + 1), by omega, rfl, p'⟩, fun z H' hy => ?_⟩
    obtain ⟨T, x', rfl, hT, rfl, f1⟩ := hy
    have ex : x' = x := Option.some.inj ((f1 _ k1).symm.trans gx)
    subst ex
    exact hs i _ T H gx p hT
  · exact .inl ⟨⟨xs, k1, by omega⟩, hd i H p (by omega)⟩
/-- a pot that stays but for others -/
theorem Pot.same {H H' : Hp} {p : Addr} {c : Nat} (h : Pot H p c) (e : Same H H') : Pot H' p c := let ⟨o, ho, po⟩ := h; ⟨o, e _ _ ho, po⟩
theorem dec_tt {α : Type} [DecidableEq α] (a : α) : decide (a = a) = true := decide_eq_true rfl
/-! ### calls by names alone -/
def kG {α : Type} (us ws : List α) : List α := match us with
  | [] => ws
  | _ => []
section
variable {X : Cx} {CX : CXT} {k : Nat} {f : Addr} {fd : FuncData} {ps ks : List Str} {sp : Sp} {E : XK} {x : Str} {p pos : Pos} {kws : List Keyword} {tk : TA} {g : List Value → List Value → List Value} {gV : List V → List V → List V}
theorem pe_callK0 (F : FnOk X.prog X.w X.K X.mg X.base CX k f fd ps sp) (hr : Room k X.A) (hg : Gl X x) (hm : X.mg x = some (.ref f)) (hk : PySem.W.keepIn X.K (.ref f) = true) (hb : KBinds X.K fd ps ks g gV) (hx : Passes CX X E)
    (hkw : PK X kws tk) (hall : (backToKw pos (keywordEach kws X.env)).all (·.1.isSome) = true := by rfl) (hks : (backToKw pos (keywordEach kws X.env)).filterMap (·.1) = ks := by rfl)
    (hdb : (x == ("__debug__" : Str)) = false := by decide) (hpl : ((backTo pos (starEach [] X.env)).any (·.1) || (backToKw pos (keywordEach kws X.env)).any (·.1.isNone)) = false := by rfl) :
    PE X (.Call (.Name x p) [] kws pos) (tCallK sp gV E tNil tk) := by
  refine ⟨fun pins s σ H Q I h => ?_⟩
  refine wpAny_Call_Name_kw (ld_glob I hg hm ?_ hdb)
  refine PySem.W.callWith_KW0 (h₀ := X.base) I.ok.mod.kin hk hall (thn (hkw.run pos pins s σ H _ I h) fun ws s2 ⟨zs, H2, I2, rz, q2⟩ => ⟨I2.kIn, ?_⟩) hpl
  rw [hks]
  exact run_fnk (us := []) (vs := []) F hr hb hx I2 .nil rz q2
end
theorem fun_kbinds {K : PySem.W.Frag} {x qual : Str} {st : Stmt} {f : Addr} {fd : FuncData} {ps : List Str} (F : Fun K x qual st f fd) (hp : 0 < ps.length)
    (h : ∀ (kV doc pm : Value) (an : Option Addr) (cdv ct : Value) (ws : List Value), ws.length = ps.length → bindArgs (PySem.W.fnOf x qual (defArgs st) (defBody st) (defScope st) .none kV doc pm an cdv ct) ⟨[], ps.zip ws⟩ = pure (ps.zip ws)) : KBinds K fd ps ps kG kG := by
  obtain ⟨oc, od, kV, doc, pm, an, cdv, ct, osl, rfl, lk, hcd⟩ := F.ex
  refine ⟨fun s us ws _ hl => ?_, fun r rz => ?_⟩
  · cases us with
    | nil => exact .of_eq (h kV doc pm an cdv ct ws hl)
    | cons u us =>
      have hl : (0 : Nat) = ps.length := hl
      omega
  · cases r with
    | nil => exact rz
    | cons _ _ => exact .nil
section
variable {K : PySem.W.Frag}
theorem shown_sumL (ns : List Nat) (h : ∀ n ∈ ns, n < 10 ^ 70) : (PyData.shown (.list ((ns.map fun n : Nat => (n : Int)).map PyData.int))).length ≤ 72 * ns.length + 10 := by
  have t := listText_len_le (PyData.shownAll ((ns.map fun n : Nat => (n : Int)).map PyData.int))
  have s := shown_sum ns h
  rw [PyData.shownAll_length, List.length_map, List.length_map] at t
  show (listText _).length ≤ _
  omega
/-- what repr asks of a list of small numbers -/
theorem rep_intsL {H : Hp} {a : Addr} {ns : List Nat} {Q : VK} (hS : SqL K H a (ns.map fun n : Nat => V.int (n : Int))) (h : ∀ n ∈ ns, n < 10 ^ 70) (hl : ns.length ≤ 100000)
    (q : Q (.str (PyData.shown (.list ((ns.map fun n : Nat => (n : Int)).map PyData.int)))) H) : rRep K [.ref a] H Q := by
  have dp := depth_ints (ns.map fun n : Nat => (n : Int))
  have e : (ns.map fun n : Nat => V.int (n : Int)) = (ns.map fun n : Nat => (n : Int)).map V.int := by
    rw [List.map_map]
    rfl
  rw [e] at hS
  refine ⟨a, _, rfl, .lst hS (DpAll.ints _), ?_, ?_, ?_, ?_, q⟩
  · show PyData.showableAll _ = true
    refine PyData.showableAll_ints _ fun n hn => ?_
    obtain ⟨m, hm, rfl⟩ := List.mem_map.mp hn
    exact log_small (h m hm)
  · show PyData.hasDictAll _ = false
    exact noDict_ints _
  · simp only [PyData.depth]
    omega
  · have := shown_sumL ns h
    rw [sizeLine_eq]
    omega
end
theorem rep_getL {α : Type} (l : List α) : ∀ (c i : Nat), i < l.length * c → (List.replicate c l).flatten[i]? = l[i % l.length]?
  | 0, i, h => by omega
  | c + 1, i, h => by
    rw [List.replicate_succ, List.flatten_cons]
    by_cases z : i < l.length
    · rw [List.getElem?_append_left z, Nat.mod_eq_of_lt z]
    · rw [List.getElem?_append_right (by omega), rep_getL l c (i - l.length) (by rw [Nat.mul_succ] at h; omega)]
      rw [Nat.mod_eq_sub_mod (show l.length ≤ i by omega)]
theorem rep_lenL {α : Type} (l : List α) : ∀ c : Nat, (List.replicate c l).flatten.length = l.length * c
  | 0 => rfl
  | c + 1 => by rw [List.replicate_succ, List.flatten_cons, List.length_append, rep_lenL l c, Nat.mul_succ, Nat.add_comm]
/-! ### pairs as data -/
theorem eqv_pairs : ∀ ps : List (Nd × Nat), PyData.eqvAll (ps.map pdat) (ps.map pdat) = true
  | [] => by simp [PyData.eqvAll]
  | p :: r => by
    have e1 : PyData.eqv (pdat p) (pdat p) = true := by
      unfold pdat
      simp [PyData.eqv, PyData.eqvAll, eqv_yes]
    simp only [List.map_cons, PyData.eqvAll, e1, eqv_pairs r, Bool.and_self]
theorem eqv_pairsT (ps : List (Nd × Nat)) : PyData.eqv (.tuple (ps.map pdat)) (.tuple (ps.map pdat)) = true := by
  unfold PyData.eqv
  exact eqv_pairs _
theorem eqv_pairsL (ps : List (Nd × Nat)) : PyData.eqv (.list (ps.map pdat)) (.list (ps.map pdat)) = true := by
  unfold PyData.eqv
  exact eqv_pairs _
theorem shaped_prsTT {l : Nat} {ps : List (Nd × Nat)} (h : ∀ p ∈ ps, Ok p.1 l) (hl : l ≤ 20) : SeqAt.shaped (.tuple (ps.map pdat)) = true := by
  obtain ⟨h1, h2⟩ := canLay_prs l ps h
  unfold SeqAt.shaped
  rw [Bool.and_eq_true]
  exact ⟨by unfold PyData.canLay0; exact h1, decide_eq_true (by unfold PyData.depth; omega)⟩
/-- pairs of elements and small counts -/
def ElPairs (ps : List (Nd × Nat)) : Prop := ∀ p ∈ ps, (∃ k : Nat, p.1 = .el k ∧ k ≤ 10 ^ 9) ∧ p.2 < 10 ^ 70
theorem shown_pdat {p : Nd × Nat} (h : (∃ k : Nat, p.1 = .el k ∧ k ≤ 10 ^ 9) ∧ p.2 < 10 ^ 70) : (PyData.shown (pdat p)).length ≤ 147 ∧ PyData.showable (pdat p) = true ∧ PyData.hasDict (pdat p) = false ∧ PyData.depth (pdat p) ≤ 2 := by
  obtain ⟨n, c⟩ := p
  obtain ⟨⟨k, e, hk⟩, hc⟩ := h
  have e : n = .el k := e
  subst e
  have hk7 : k < 10 ^ 70 := Nat.lt_of_le_of_lt hk (by decide +kernel)
  refine ⟨?_, ?_, ?_, ?_⟩
  · show (tupleText (PyData.shownAll [.int (k : Int), .int (c : Int)])).length ≤ 147
    have t := tupleText_len_le (PyData.shownAll [.int (k : Int), .int (c : Int)])
    have h1 := shown_len hk7
    have h2 := shown_len (n := c) hc
    simp only [PyData.shownAll, List.map_cons, List.map_nil, List.sum_cons, List.sum_nil, List.length_cons, List.length_nil] at t
    simp only [PyData.shownAll]
    omega
  · show PyData.showableAll (([k, c].map fun n : Nat => (n : Int)).map PyData.int) = true
    refine PyData.showableAll_ints _ fun n hn => ?_
    obtain ⟨m, hm, rfl⟩ := List.mem_map.mp hn
    simp only [List.mem_cons, List.not_mem_nil, or_false] at hm
    rcases hm with rfl | rfl
    · exact log_small hk7
    · exact log_small hc
  · show PyData.hasDictAll (([k, c].map fun n : Nat => (n : Int)).map PyData.int) = false
    exact noDict_ints _
  · have := depth_ints ([k, c].map fun n : Nat => (n : Int))
    show PyData.depth (.tuple (([k, c].map fun n : Nat => (n : Int)).map PyData.int)) ≤ 2
    simp only [PyData.depth]
    omega
theorem shown_pdats : ∀ ps : List (Nd × Nat), ElPairs ps → ((PyData.shownAll (ps.map pdat)).map (·.length)).sum ≤ 147 * ps.length ∧ PyData.showableAll (ps.map pdat) = true ∧ PyData.hasDictAll (ps.map pdat) = false ∧ PyData.depthAll (ps.map pdat) ≤ 2
  | [], _ => by simp [PyData.shownAll, PyData.showableAll, PyData.hasDictAll, PyData.depthAll]
  | p :: r, h => by
    obtain ⟨a1, a2, a3, a4⟩ := shown_pdat (h p List.mem_cons_self)
    obtain ⟨b1, b2, b3, b4⟩ := shown_pdats r fun q hq => h q (List.mem_cons_of_mem _ hq)
    simp only [List.map_cons, PyData.shownAll, PyData.showableAll, PyData.hasDictAll, PyData.depthAll, List.sum_cons, List.length_cons, a2, b2, a3, b3, Bool.and_self, Bool.or_self]
    refine ⟨by omega, trivial, trivial, by omega⟩
theorem shown_prsT {ps : List (Nd × Nat)} (h : ElPairs ps) : (PyData.shown (.tuple (ps.map pdat))).length ≤ 149 * ps.length + 3 ∧ PyData.showable (.tuple (ps.map pdat)) = true ∧ PyData.hasDict (.tuple (ps.map pdat)) = false ∧ PyData.depth (.tuple (ps.map pdat)) ≤ 3 := by
  obtain ⟨b1, b2, b3, b4⟩ := shown_pdats ps h
  refine ⟨?_, b2, b3, ?_⟩
  · show (tupleText _).length ≤ _
    have t := tupleText_len_le (PyData.shownAll (ps.map pdat))
    rw [PyData.shownAll_length, List.length_map] at t
    omega
  · simp only [PyData.depth]
    omega
section
variable {K : PySem.W.Frag}
/-- repr of pairs -/
theorem rep_prsT {H : Hp} {a : Addr} {us : List V} {ps : List (Nd × Nat)} {Q : VK} (hS : SqT K H a us) (hn : PrsV K H us ps) (h : ElPairs ps) (hl : ps.length ≤ 1000) (q : Q (.str (PyData.shown (.tuple (ps.map pdat)))) H) : rRep K [.ref a] H Q := by
  obtain ⟨b1, b2, b3, b4⟩ := shown_prsT h
  refine ⟨a, _, rfl, .tup hS hn, b2, b3, by omega, ?_, q⟩
  rw [sizeLine_eq]
  omega
/-- repr of a list of two tuples of pairs -/
theorem rep_two {H : Hp} {a b c : Addr} {us ws : List V} {ps : List (Nd × Nat)} {Q : VK} (hL : SqL K H a [.ref b, .ref c]) (hb : SqT K H b us) (hc : SqT K H c ws) (hn : PrsV K H us ps) (hm : PrsV K H ws ps) (h : ElPairs ps) (hl : ps.length ≤ 1000)
    (q : Q (.str (PyData.shown (.list [.tuple (ps.map pdat), .tuple (ps.map pdat)]))) H) : rRep K [.ref a] H Q := by
  obtain ⟨b1, b2, b3, b4⟩ := shown_prsT h
  refine ⟨a, _, rfl, .lst hL (.cons (.tup hb hn) (.cons (.tup hc hm) .nil)), ?_, ?_, ?_, ?_, q⟩
  · simp only [PyData.showable, PyData.showableAll]
    simp only [PyData.showable] at b2
    rw [b2]
    rfl
  · simp only [PyData.hasDict, PyData.hasDictAll]
    simp only [PyData.hasDict] at b3
    rw [b3]
    rfl
  · simp only [PyData.depth, PyData.depthAll]
    simp only [PyData.depth] at b4
    omega
  · show (listText (PyData.shownAll [.tuple (ps.map pdat), .tuple (ps.map pdat)])).length ≤ sizeLine
    have t := listText_len_le (PyData.shownAll [.tuple (ps.map pdat), .tuple (ps.map pdat)])
    simp only [PyData.shownAll, List.map_cons, List.map_nil, List.sum_cons, List.sum_nil, List.length_cons, List.length_nil] at t
    simp only [PyData.shownAll]
    rw [sizeLine_eq]
    omega
end
/-! ### repr of a tuple, an int, None -/
def rRepV (K : PySem.W.Frag) : List V → Hp → VK → Prop := fun xs H Q => rRepA K xs H Q ∨ (xs = [.non] ∧ Q (.str "None") H)
theorem call_repV {X : Cx} {k : Nat} (hr : Room k X.A) (hg : X.A.guards = some []) : CallR X (.builtin "repr") (rRepV X.K) := by
  intro pins s σ H xs us Q I r h
  rcases h with h | ⟨rfl, q⟩
  · exact call_repA hr hg pins s σ H xs us Q I r h
  · obtain ⟨u, rfl, ru⟩ := vals1 r
    cases ru
    exact PySem.P.repr_of_none ⟨.str _, H, I.tok _, ⟨_, rfl⟩, q⟩
theorem sum_ints (l : List Nat) : (l.map fun n : Nat => (n : Int)).sum = ((l.sum : Nat) : Int) := by
  induction l with
  | nil => rfl
  | cons a r ih => rw [List.map_cons, List.sum_cons, List.sum_cons, ih, Int.natCast_add]
open RZ
/-! ### for x, y in zip(t, u), t and u tuples of any lengths -/
theorem for_zipU {K : PySem.W.Frag} {a b : Addr} {xs ys : List V} {g : TG} {tb : TS} {D : Ends} {σ : L2.St} {H : Hp} (Pv : Nat → L2.St → Hp → Prop) (h0 : Pv 0 σ H) (hq : ∀ i σ H, Pv i σ H → SqT K H a xs ∧ SqT K H b ys)
    (hs : ∀ (i : Nat) (x y : V) (T : Addr) (σ : L2.St) (H : Hp), xs[i]? = some x → ys[i]? = some y → Pv i σ H → H T = none → g (.ref T) σ (upd H T (.tup [x, y])) fun σ2 H2 => tb { D with nx := Pv (i + 1), ct := Pv (i + 1), bk := D.nx } σ2 H2)
    (hd : ∀ i σ H, Pv i σ H → (xs.length ≤ i ∨ ys.length ≤ i) → D.nx σ H) :
    ∃ W : Nat → Nat → L2.St → Hp → Prop, (∃ m, W 0 m σ H) ∧ ∀ i m σ H, W i m σ H →
      ((ItzT K a b).stop i H ∧ D.nx σ H) ∨ ((ItzT K a b).go i H ∧ ∃ N : L2.St → Hp → Prop, (∀ σ' H', N σ' H' → ∃ m', m' < m ∧ W (i + 1) m' σ' H') ∧ ∀ v H', (ItzT K a b).yld i H v H' → g v σ H' fun σ2 H2 => tb { D with nx := N, ct := N, bk := D.nx } σ2 H2) := by
  refine ⟨fun i m σ H => m = xs.length - i ∧ Pv i σ H, ⟨_, rfl, h0⟩, ?_⟩
  rintro i m σ H ⟨rfl, p⟩
  obtain ⟨k1, k2⟩ := hq i σ H p
  by_cases c : i < xs.length ∧ i < ys.length
  · obtain ⟨x, gx⟩ := get_of c.1
    obtain ⟨y, gy⟩ := get_of c.2
    refine .inr ⟨⟨xs, ys, x, y, k1, k2, gx, gy⟩, Pv (i + 1), fun σ' H' p' => ⟨xs.length - (i + 1), by omega, rfl, p'⟩, fun v H' hy => ?_⟩
    obtain ⟨T, x', y', rfl, hT, rfl, f1, f2⟩ := hy
    have ex : x' = x := Option.some.inj ((f1 _ k1).symm.trans gx)
    have ey : y' = y := Option.some.inj ((f2 _ k2).symm.trans gy)
    subst ex
    subst ey
    exact hs i _ _ T σ H gx gy p hT
  · have c' : xs.length ≤ i ∨ ys.length ≤ i := by omega
    exact .inl ⟨⟨xs, ys, k1, k2, c'⟩, hd i σ H p c'⟩
/-- t[1:] -/
theorem slice_one {K : PySem.W.Frag} {H : Hp} {a : Addr} {xs : List V} {Q : VK} (h : SqT K H a xs) (q : ∀ H' t, Same H H' → SqT K H' t (xs.drop 1) → Q (.ref t) H') : rSlA K (.ref a) (some 1) none H Q := by
  refine ⟨a, xs, rfl, h, fun hw => q H a (Same.refl H) ?_, fun hw u nu => q _ u (sameN nu) (.inl (.inl ?_))⟩
  · have h1 : HT.sIx xs.length 0 (some ((1 : Nat) : Int)) = 0 := hw.1
    rw [HT.sIx_nat] at h1
    have : xs.length = 0 := by omega
    rw [List.eq_nil_of_length_eq_zero this] at h ⊢
    exact h
  · rw [upd_same]
    refine congrArg (fun z => some (HO.tup z)) ?_
    show cutV xs (some ((1 : Nat) : Int)) none = _
    unfold cutV
    rw [HT.sIx_nat, HT.sIx_none]
    by_cases z : xs.length = 0
    · rw [List.eq_nil_of_length_eq_zero z]
      rfl
    · rw [show min 1 xs.length = 1 by omega]
      exact List.take_of_length_le (by rw [List.length_drop]; exact Nat.le_refl _)
/-- a pair as data -/
theorem shaped_pdat {p : Nd × Nat} {l : Nat} (h : Ok p.1 l) (hl : l ≤ 20) : SeqAt.shaped (pdat p) = true := by
  obtain ⟨h1, h2⟩ := canLay_prs l [p] fun q hq => by rw [List.mem_singleton.mp hq]; exact h
  unfold SeqAt.shaped
  rw [Bool.and_eq_true]
  simp only [List.map_cons, List.map_nil, PyData.canLayAll0, PyData.depthAll, Bool.and_true] at h1 h2
  exact ⟨h1, decide_eq_true (by omega)⟩
theorem eqv_pdat (p : Nd × Nat) : PyData.eqv (pdat p) (pdat p) = true := by
  unfold pdat
  simp [PyData.eqv, PyData.eqvAll, eqv_yes]
end Loc

set_option Elab.async false
set_option linter.all false
namespace Loc
open PySem PySem.Spec PyProof.Rows L2
section
variable {X : Cx} {a b c d : Expr} {ta tb tc td : TE} {pos : Pos}
/-- a op1 b op2 c op3 d -/
def tChain3 (r r' r'' : R2) (ta tb tc td : TE) : TE := fun σ H Q => ta σ H fun x H1 => tb σ H1 fun y H2 => r x y H2 fun z H3 => ∃ k, z = .bl k ∧
  (if k = true then tc σ H3 fun w' H4 => r' y w' H4 fun z2 H5 => ∃ k2, z2 = .bl k2 ∧ (if k2 = true then td σ H5 fun u H6 => r'' w' u H6 Q else Q (.bl false) H5) else Q (.bl false) H3)
theorem pt_chain3 {op op' op'' : CmpOp} {r r' r'' : R2} (ho : OpR X (compareOp op) r) (ho' : OpR X (compareOp op') r') (ho'' : OpR X (compareOp op'') r'') (ha : PE X a ta) (hb : PE X b tb) (hc : PE X c tc) (hd : PE X d td)
    (hm : lastMarks [op, op', op''] [b, c, d] = false := by with_unfolding_all rfl) : PT X (.Compare a [op, op', op''] [b, c, d] pos) (tTest (tChain3 r r' r'' ta tb tc td)) := by
  refine ⟨fun pins s σ H Q I h => ?_⟩
  refine isTrue_chain (thn (ha.run pins s σ H _ I h) fun v s1 ⟨x, H1, I1, r1, q1⟩ => test_link (thn (hb.run pins s1 σ H1 _ I1 q1) fun u s2 ⟨y, H2, I2, r2, q2⟩ =>
    thn (ho pins s2 σ H2 x y v u _ I2 r1 r2 q2) fun d' s3 ⟨z, H3, I3, r3, k, e, q3⟩ => ?_)) hm
  subst e
  cases r3
  refine wpAny_truthy_bool ?_
  cases k with
  | false =>
    obtain ⟨k', e', q'⟩ := q3
    cases e'
    exact ite_ff ⟨H3, I3, q'⟩
  | true =>
    refine ite_tt (test_link (thn (hc.run pins s3 σ H3 _ I3 q3) fun w' s4 ⟨z', H4, I4, r4, q4⟩ => thn (ho' pins s4 σ H4 y z' u w' _ I4 r2 r4 q4) fun d2 s5 ⟨z2, H5, I5, r5, k2, e2, q5⟩ => ?_))
    subst e2
    cases r5
    refine wpAny_truthy_bool ?_
    cases k2 with
    | false =>
      obtain ⟨k', e', q'⟩ := q5
      cases e'
      exact ite_ff ⟨H5, I5, q'⟩
    | true =>
      refine ite_tt (test_last (thn (hd.run pins s5 σ H5 _ I5 q5) fun w2 s6 ⟨z6, H6, I6, r6, q6⟩ => thn (ho'' pins s6 σ H6 z' z6 w' w2 _ I6 r4 r6 q6) fun d3 s7 ⟨z7, H7, I7, r7, k3, e3, q7⟩ => ?_))
      subst e3
      cases r7
      exact wpAny_truthy_bool ⟨H7, I7, q7⟩
end
end Loc

set_option Elab.async false
set_option linter.all false
set_option maxRecDepth 100000
namespace Loc
open PySem PySem.Spec PyProof.Rows L2
/-- a comprehension over reversed(t), t a tuple -/
theorem lc_revT {K : PySem.W.Frag} {a : Addr} {xs : List V} {g : TG} {tt : TT} {te : TE} {vs : List Nat} {σ : L2.St} {H1 : Hp} {D : Addr} {Qd : Hp → Prop} (Pv : Nat → Hp → Prop) (h0 : Pv 0 (upd H1 D (.lst []))) (hl : ∀ i H, i ≤ xs.length → Pv i H → SqT K H a xs)
    (hs : ∀ i x H, i < xs.length → xs[xs.length - 1 - i]? = some x → Pv i H → g x (wipe σ vs) H fun σ2 H2 => wipe σ2 vs = wipe σ vs ∧ tt σ2 H2 fun b H3 =>
      if b = true then te σ2 H3 fun y H4 => ∃ acc, H4 D = some (.lst acc) ∧ acc.length < sizeLine ∧ Pv (i + 1) (upd H4 D (.lst (acc ++ [y]))) else Pv (i + 1) H3) (hd : ∀ H, Pv xs.length H → Qd H) :
    ∃ W : Nat → Nat → Hp → Prop, (∃ m, W 0 m (upd H1 D (.lst []))) ∧ ∀ i m H, W i m H →
      ((RT.ItvT K a xs.length).stop i H ∧ Qd H) ∨ ((RT.ItvT K a xs.length).go i H ∧ ∃ Nx : Hp → Prop, (∀ H', Nx H' → ∃ m', m' < m ∧ W (i + 1) m' H') ∧ ∀ x H', (RT.ItvT K a xs.length).yld i H x H' → g x (wipe σ vs) H' fun σ2 H2 => wipe σ2 vs = wipe σ vs ∧ tt σ2 H2 fun b H3 =>
        if b = true then te σ2 H3 fun y H4 => ∃ acc, H4 D = some (.lst acc) ∧ acc.length < sizeLine ∧ Nx (upd H4 D (.lst (acc ++ [y]))) else Nx H3) := by
  refine ⟨fun i m H => m = xs.length - i ∧ i ≤ xs.length ∧ Pv i H, ⟨xs.length, by simp, Nat.zero_le _, h0⟩, ?_⟩
  rintro i m H ⟨rfl, hi, p⟩
  have q := hl i H hi p
  by_cases hlt : i < xs.length
  · refine .inr ⟨⟨hlt, xs, xs[xs.length - 1 - i]'(by omega), q, by rw [List.getElem?_eq_getElem]⟩, Pv (i + 1), fun H' p' => ⟨xs.length - (i + 1), by omega, rfl, hlt, p'⟩, fun x H' y => ?_⟩
    obtain ⟨e, y⟩ := y
    subst e
    exact hs i x _ hlt (y xs q) p
  · have e : i = xs.length := by omega
    subst e
    exact .inl ⟨Nat.le_refl _, hd H p⟩
end Loc

set_option Elab.async false
set_option linter.all false
set_option maxRecDepth 100000
set_option maxHeartbeats 4000000
namespace Loc
open PySem PySem.Spec PyProof.Rows L2
/-- a short tuple, written up to 2000 times -/
def rRepT2 (K : PySem.W.Frag) : R2 := fun x y H Q => ∃ l k xs, x = .ref l ∧ y = .int k ∧ SqT K H l xs ∧ xs ≠ [] ∧ 2 ≤ k ∧ k ≤ 2000 ∧ xs.length ≤ 400 ∧ ∀ H' p, Same H H' → SqT K H' p (List.replicate k.toNat xs).flatten → Q (.ref p) H'
theorem op_repT2 {X : Cx} : OpR X (binaryOp .Mult) (rRepT2 X.K) := by
  intro pins s σ H x y v u Q I rx ry h
  obtain ⟨l, k, xs, rfl, rfl, tup, ne, two, most, short, q⟩ := h
  cases rx
  obtain ⟨w, rfl⟩ := ry
  obtain ⟨ys, r, ⟨⟨cls, dd, data, sl⟩, hob, hcl, n, hdt⟩, hsm⟩ := I.tuple tup
  simp only at hcl hdt
  subst hcl hdt
  have ly : ys.length = xs.length := r.length.symm
  obtain ⟨y0, yr, rfl⟩ : ∃ y0 yr, ys = y0 :: yr := by
    cases ys with
    | nil => exact absurd (List.eq_nil_of_length_eq_zero ly.symm) ne
    | cons a b => exact ⟨a, b, rfl⟩
  have filled : ((y0 :: yr).toArray).isEmpty = false := rfl
  have size0 : ((y0 :: yr).toArray).size = xs.length := by rw [List.size_toArray, ly]
  have prod : ((((y0 :: yr).toArray).size : Nat) : Int) * k ≤ 800000 := by
    rw [size0]
    have := Int.mul_le_mul_of_nonneg_right (c := k) (show ((xs.length : Nat) : Int) ≤ 400 by omega) (by omega)
    omega
  have prodN : k.toNat * xs.length ≤ 2000 * 400 := Nat.mul_le_mul (by omega) short
  have flat : (List.replicate k.toNat (y0 :: yr)).flatten.length ≤ sizeLine := by
    rw [PyProof.Rows.lm_len_rep_flat, ly]
    exact Nat.le_trans prodN (by decide)
  have b0 : (decide (k < -(2 ^ 63)) || decide (k ≥ 2 ^ 63)) = false := by
    rw [Bool.or_eq_false_iff]
    exact ⟨decide_eq_false (by omega), decide_eq_false (by omega)⟩
  have b1 : (((y0 :: yr).toArray).isEmpty || k == 1) = false := Bool.or_eq_false_iff.mpr ⟨filled, beq_eq_false_iff_ne.mpr (by omega)⟩
  have b2 : (decide (k ≤ 0) || ((y0 :: yr).toArray).isEmpty) = false := Bool.or_eq_false_iff.mpr ⟨decide_eq_false (by omega), filled⟩
  have b4 : Builtin.Tuple.tupleTooMany (((((y0 :: yr).toArray).size : Nat) : Int) * k) = false := by
    have : (800000 : Int) ≤ ((sizeLine : Nat) : Int) := by decide
    exact decide_eq_false (by omega)
  refine wpAny_binaryOp_repeat_ref (T := "tuple") (U := "int")
    (by decide) ⟨_, hob, rfl⟩ (fun s' => typeIs_int s' k w)
    noFill_tuple_mul PySem.F.fills_int_mul PySem.F.slot_int_rmul
    repeat_tuple PySem.F.slot_int_index.lookup ?_
  refine call_meets PySem.F.slot_int_rmul (typeIs_int s k w)
    PySem.F.entry_int_rmul (PySem.F.args_int_rmul_2 _ _)
    (int_rmul_tuple k w l (y0 :: yr).toArray n dd sl) ⟨hob, rfl, ⟨_, hob, rfl⟩, ?_⟩
  refine call_meets PySem.F.slot_tuple_mul ⟨_, hob, rfl⟩
    PySem.F.entry_tuple_mul (PySem.F.args_tuple_mul_2 _ _)
    (tuple_mulW l (y0 :: yr).toArray n dd sl k w b0 b1 b2 (by omega) b4
      (by rw [size_rep, List.size_toArray]; exact flat)) ⟨hob, ?_⟩
  rw [size_rep]
  have fresh : H s.heap.objs.size = none := I.hok.fresh (Nat.le_refl _)
  refine ⟨.ref s.heap.objs.size, _, I.laid (t' := s.toks) (o := .tup (List.replicate k.toNat xs).flatten)
    (fun b ob z => Heap.get?_push_of_some _ z) (Nat.le_refl _) ⟨?_, _, r.rep k.toNat, IsTup.new _ _⟩, rfl, q _ _ (sameN fresh) (.inl (.inl upd_same))⟩
  rw [PyProof.Rows.lm_len_rep_flat]
  exact Nat.le_trans prodN (by decide)
end Loc

set_option Elab.async false
set_option linter.all false
set_option maxRecDepth 100000
set_option maxHeartbeats 2000000
/-! t[::-1], t a tuple -/
namespace HT
open PySem PySem.Spec PyProof.Rows
section
variable {prog : Program} {w : World} {A : Around} {E : Value → Shared → Prop} {s : Shared}
theorem sliceApplied_rev {sl : Addr} {vk : Value} {n : Nat} {Q : Int × Int × Nat → Shared → Prop} (hs : s.heap.IsSliceOf sl .none .none vk) (pk : IsPart vk (some (-1)))
    (h : Q ((n : Int) - 1, -1, n) s) : wpAny (model prog w) A (Builtin.Slice.sliceApplied (.ref sl) (pure (n : Int))) Q E s := by
  obtain ⟨os, hos, hcs, hds⟩ := id hs
  unfold Builtin.Slice.sliceApplied Builtin.Slice.sliceFields
  refine wpAny_bind (wpAny_bind (wpAny_field hos hds (x := .none) rfl (wpAny_bind (wpAny_field hos hds (x := .none) rfl (wpAny_bind (wpAny_field hos hds (x := vk) rfl (wpAny_pure ?_)))))))
  refine wpAny_bind (slicePart_ pk ?_)
  show wpAny _ _ (if ((-1 : Int) == 0) = true then _ else _) _ _ s
  rw [if_neg (by decide)]
  refine wpAny_bind (slicePart_none (wpAny_bind (slicePart_none (wpAny_bind (wpAny_pure ?_)))))
  have e : Builtin.Slice.slicePlaces ((n : Int) - 1) (-1) (-1) = n := by
    unfold Builtin.Slice.slicePlaces
    have h1 : ¬ ((-1 : Int) > 0) := by omega
    simp only [h1, if_false]
    split
    · have : ((n : Int) - 1 - -1 - 1) / (- (-1)) = (n : Int) - 1 := by
        rw [show (- (-1 : Int)) = 1 by rfl, Int.ediv_one]
        omega
      rw [this]
      omega
    · omega
  show wpAny _ _ (pure ((n : Int) - 1, (-1 : Int), Builtin.Slice.slicePlaces ((n : Int) - 1) (-1) (-1))) _ _ s
  rw [e]
  exact wpAny_pure h
theorem fm_congr {f g : Nat → Option Value} : ∀ l : List Nat, (∀ m ∈ l, f m = g m) → l.filterMap f = l.filterMap g
  | [], _ => rfl
  | a :: l, h => by
    rw [List.filterMap_cons, List.filterMap_cons, h a List.mem_cons_self, fm_congr l fun m hm => h m (List.mem_cons_of_mem _ hm)]
theorem pick_rev (xs : Array Value) : ((List.range xs.size).filterMap fun (m : Nat) => xs[((xs.size : Int) - 1 + (m : Int) * (-1)).toNat]?).toArray = xs.toList.reverse.toArray := by
  have e : (List.range xs.size).filterMap (fun (m : Nat) => xs[((xs.size : Int) - 1 + (m : Int) * (-1)).toNat]?) = ((List.range xs.size).map fun k => xs.size - 1 - k).filterMap (xs[·]?) := by
    rw [List.filterMap_map]
    refine fm_congr _ fun m hm => ?_
    have := List.mem_range.mp hm
    show xs[((xs.size : Int) - 1 + (m : Int) * (-1)).toNat]? = xs[xs.size - 1 - m]?
    rw [show ((xs.size : Int) - 1 + (m : Int) * (-1)).toNat = xs.size - 1 - m by omega]
  rw [e, PySem.W.krv_range, List.filterMap_reverse, PySem.W.krv_all]
theorem getItem_tuple_rev {t sl : Addr} {items : Array Value} {vk : Value} {Q : Value → Shared → Prop} (ht : IsTup s.heap t items) (hs : s.heap.IsSliceOf sl .none .none vk) (pk : IsPart vk (some (-1)))
    (h : Q (.ref s.heap.objs.size) { s with heap := s.heap.push { cls := .type "tuple", data := .seq items.toList.reverse.toArray } })
    (hsz : items.size ≤ sizeLine) : wpAny (model prog w) A (getItem (.ref t) (.ref sl)) Q E s := by
  have htake : sizeOk (.seq items.toList.reverse.toArray) := by
    show items.toList.reverse.toArray.size ≤ sizeLine
    rw [List.size_toArray, List.length_reverse, Array.length_toList]
    exact hsz
  obtain ⟨os, hos, hcs, hds⟩ := id hs
  have hTs : s.TypeIs (.ref sl) "slice" := ⟨os, hos, hcs⟩
  unfold getItem
  try with_reducible refine wpAny_holding ?_
  first | refine wpAny_bind (wpAny_pure ?_) | skip
  refine wpAny_bind (wpAny_sequenceKey ht.typeIs (by decide) ?_)
  refine wpAny_bind (wpAny_callSpecial?_slot (name := Str.ofString "__getitem__") ht.typeIs PyProof.Rows.slot_tuple_getitem
    (wpAny_call_entry PyProof.Rows.slot_tuple_getitem ht.typeIs entry_tuple_getitem ?_ (args_tuple_getitem _ _)))
  show wpAny _ _ (Builtin.Tuple.tupleItemsOf (.ref t) >>= _) _ _ s
  refine wpAny_bind (tupleItemsOf_ ht ?_)
  refine wpAny_bind (wpAny_typeOf hTs ?_)
  rw [if_pos (by decide)]
  refine wpAny_bind (sliceApplied_rev hs pk ?_)
  have hno : ¬ ((((items.size : Int) - 1) == 0 && (-1 : Int) == 1 && items.size == items.size) = true) := by
    intro q
    rw [Bool.and_eq_true, Bool.and_eq_true] at q
    exact absurd q.1.2 (by decide)
  show wpAny _ _ (if (((items.size : Int) - 1) == 0 && (-1 : Int) == 1 && items.size == items.size) = true then _ else _) _ _ s
  rw [if_neg hno, pick_rev]
  first
    | exact wpAny_bind (m := Builtin.Tuple.tupleExact _) (wpAny_newObj_type (wpAny_pure ⟨_, rfl, wpAny_pure h⟩) htake)
    | exact wpAny_bind (m := Builtin.Tuple.tupleExact _) (wpAny_newObj_type (wpAny_bind (wpAny_pure (wpAny_pure ⟨_, rfl, wpAny_pure h⟩))) htake)
    | exact wpAny_bind (wpAny_bind (m := Builtin.Tuple.tupleExact _) (wpAny_newObj_type (wpAny_pure (wpAny_pure ⟨_, rfl, wpAny_pure h⟩)) htake))
    | exact wpAny_bind (wpAny_bind (m := Builtin.Tuple.tupleExact _) (wpAny_newObj_type (wpAny_pure ⟨_, rfl, wpAny_pure h⟩) htake))
end
end HT
namespace L2
open PySem PySem.Spec PyProof.Rows
section
variable {X : Cx} {e st : Expr} {te : TE} {tk : TO} {p2 pos : Pos}
def rRevT (K : PySem.W.Frag) : V → Hp → VK → Prop := fun x H Q => ∃ a xs, x = .ref a ∧ SqT K H a xs ∧ ∀ p, H p = none → Q (.ref p) (upd H p (.tup xs.reverse))
/-- t[::k], k = -1 -/
theorem pe_revT (he : PE X e te) (hk : PO X (some st) tk) (hst : ∀ v s : Value, subscripted (.Slice none none (some st) p2) false v s = operate [v, s] (getItem v s) := by intros; rfl) : PE X (.Subscript e (.Slice none none (some st) p2) pos) (fun σ H Q => te σ H fun x H1 => tk σ H1 fun k H2 => k = some (-1) ∧ rRevT X.K x H2 Q) := by
  refine ⟨fun pins s σ H Q I h => ?_⟩
  refine Subscript_ (thn (he.run pins s σ H _ I h) fun v s1 ⟨x, H1, I1, r1, q1⟩ => ?_)
  refine wpAny_Slice (thn (po_none.run pins s1 σ H1 (fun o H' => o = none ∧ H' = H1) I1 ⟨rfl, rfl⟩) fun vl s2 ⟨l, H2, I2, pl, el, e2⟩ => thn (po_none.run pins s2 σ H2 (fun o H' => o = none ∧ H' = H2) I2 ⟨rfl, rfl⟩) fun vu s3 ⟨u, H3, I3, pu, eu, e3⟩ => ?_)
  subst e2 el eu e3
  refine thn (hk.run pins s3 σ H3 _ I3 q1) fun vk s4 ⟨k, H4, I4, pk, ek, q4⟩ => ?_
  subst ek
  have evl : vl = .none := by cases pl; rfl
  have evu : vu = .none := by cases pu; rfl
  subst evl evu
  obtain ⟨a, xs, rfl, hx, q⟩ := q4
  cases r1
  have I5 : Inv X pins σ H4 { s4 with heap := s4.heap.push { cls := .type "slice", data := .fields #[.none, .none, vk] } } := I4.kept (t' := s4.toks) fun b ob q => Heap.get?_push_of_some _ q
  obtain ⟨its, r, ht, hz⟩ := I5.tuple hx
  have hg : wpAny (model X.prog X.w) X.A (getItem (.ref a) (.ref s4.heap.objs.size)) (EP X pins σ Q) X.xe { s4 with heap := s4.heap.push { cls := .type "slice", data := .fields #[.none, .none, vk] } } := by
    refine HT.getItem_tuple_rev ht (Heap.IsSliceOf.new ..) pk ?_ (by rw [List.size_toArray, ← r.length]; exact hz)
    refine ⟨.ref _, _, I5.laid (t' := s4.toks) (o := .tup xs.reverse) (fun b ob q => Heap.get?_push_of_some _ q) (Nat.le_refl _) ?_, rfl, q _ (I5.hok.fresh (Nat.le_refl _))⟩
    exact ⟨by rw [List.length_reverse]; exact hz, _, r.reverse, IsTup.new _ _⟩
  show wpAny (model X.prog X.w) X.A (subscriptTail e (.Slice none none (some st) p2) (.ref a) (.ref s4.heap.objs.size)) (EP X pins σ Q) X.xe { s4 with heap := s4.heap.push { cls := .type "slice", data := .fields #[.none, .none, vk] } }
  exact tail_any (ops := [.ref a, .ref s4.heap.objs.size]) ht.typeIs PyProof.Rows.slot_tuple_getitem.lookup hg (hst _ _)
end
end L2

set_option Elab.async false
set_option linter.all false
set_option maxRecDepth 100000
namespace Loc
open PySem PySem.Spec PyProof.Rows L2
/-! ### data of any kind: dicts among them -/
def keyD : Key → PyData
  | .inl i => .int i
  | .inr x => .str x
mutual
inductive Dq (K : PySem.W.Frag) (H : Hp) : V → PyData → Prop
  | non : Dq K H .non .none
  | bl (b : Bool) : Dq K H (.bl b) (.bool b)
  | int (i : Int) : Dq K H (.int i) (.int i)
  | str (x : Str) : Dq K H (.str x) (.str x)
  | lst {a : Addr} {xs : List V} {ds : List PyData} : SqL K H a xs → DqAll K H xs ds → Dq K H (.ref a) (.list ds)
  | tup {a : Addr} {xs : List V} {ds : List PyData} : SqT K H a xs → DqAll K H xs ds → Dq K H (.ref a) (.tuple ds)
  | dct {a : Addr} {kvs : List (Key × V)} {ps : List (PyData × PyData)} : H a = some (.dK kvs) → DqKv K H kvs ps → Dq K H (.ref a) (.dict ps)
inductive DqAll (K : PySem.W.Frag) (H : Hp) : List V → List PyData → Prop
  | nil : DqAll K H [] []
  | cons {v : V} {vs : List V} {d : PyData} {ds : List PyData} : Dq K H v d → DqAll K H vs ds → DqAll K H (v :: vs) (d :: ds)
inductive DqKv (K : PySem.W.Frag) (H : Hp) : List (Key × V) → List (PyData × PyData) → Prop
  | nil : DqKv K H [] []
  | cons {k : Key} {v : V} {d : PyData} {kvs : List (Key × V)} {ps : List (PyData × PyData)} : Dq K H v d → DqKv K H kvs ps → DqKv K H ((k, v) :: kvs) ((keyD k, d) :: ps)
end
section
variable {X : Cx} {pins : List (Addr × Obj)} {σ : L2.St} {H : Hp} {s : Shared}
/-- what the reading gives: the data, and its text -/
def RdK (P : Program) (w : World) (h : Heap) (u : Value) (d : PyData) : Prop :=
  ∃ as, Reads h u d as ∧ ∃ bs, ReadAtMost h d.depth bs ∧ ReprK P w bs h d.depth u d.shown
def RdA (P : Program) (w : World) (h : Heap) (us : List Value) (ds : List PyData) : Prop :=
  ∃ as, ReadsAll h us ds as ∧ ∃ bs, ReadAtMost h (PyData.depthAll ds) bs ∧ ReprAllK P w bs h (PyData.depthAll ds) us (PyData.shownAll ds)
theorem RdA.nil {P : Program} {w : World} {h : Heap} : RdA P w h [] [] := ⟨_, .nil, [], (fun _ z => nomatch z), by rw [PyData.shownAll]; exact .nil⟩
theorem RdA.cons {P : Program} {w : World} {h : Heap} {u : Value} {d : PyData} {us : List Value} {ds : List PyData} (x : RdK P w h u d) (y : RdA P w h us ds) : RdA P w h (u :: us) (d :: ds) := by
  obtain ⟨a1, r1, b1, m1, k1⟩ := x
  obtain ⟨a2, r2, b2, m2, k2⟩ := y
  refine ⟨_, .cons r1 r2, b1 ++ b2, ?_, ?_⟩
  · rw [PyData.depthAll]
    exact (m1.mono (Nat.le_max_left _ _)).append (m2.mono (Nat.le_max_right _ _))
  · rw [PyData.depthAll, PyData.shownAll]
    exact .cons ((k1.more fun b z => List.mem_append_left _ z).level_le (Nat.le_max_left _ _)) (k2.more_le (fun b z => List.mem_append_right _ z) (Nat.le_max_right _ _))
theorem keyD_rd {P : Program} {w : World} {h : Heap} {k : Key} {u : Value} (e : keyIs k u = true) (hs : (keyD k).showable = true) (hz : (keyD k).shown.length ≤ sizeLine) : RdK P w h u (keyD k) := by
  rcases keyIs_shape e with ⟨i, t, rfl, rfl⟩ | ⟨x, t, rfl, rfl⟩
  · refine ⟨_, .int i t, [], (fun _ z => nomatch z), ?_⟩
    simp only [keyD, PyData.shown]
    exact .of_is (ReprIs.int t (by simpa [keyD, PyData.showable] using hs)) _ _ _
  · refine ⟨_, .str x t, [], (fun _ z => nomatch z), ?_⟩
    simp only [keyD, PyData.shown] at hz ⊢
    exact .of_is (ReprIs.str x t hz) _ _ _
theorem RdK.lst {P : Program} {w : World} {h : Heap} {a : Addr} {o : Obj} {vs : Array Value} {n : Nat} {ds : List PyData} (ho : h.get? a = some o) (hc : o.cls = .type "list") (hd : o.data = .seq vs n)
    (y : RdA P w h vs.toList ds) : RdK P w h (.ref a) (.list ds) := by
  obtain ⟨as, r, bs, m, k⟩ := y
  have rr : Reads h (.ref a) (.list ds) _ := .list ho hc hd r
  have na : a ∉ bs := not_mem_of_deeper rr (by simp only [PyData.depth]; omega) m
  refine ⟨_, rr, a :: bs, ReadAtMost.cons rr (by simp only [PyData.depth]; omega) m, ?_⟩
  simp only [PyData.depth, PyData.shown]
  obtain ⟨l⟩ := vs
  cases l with
  | nil =>
    have r' : ReadsAll h [] ds _ := r
    cases r'
    rw [PyData.shownAll, listText_nil]
    exact ReprK.listEmpty ho hc hd
  | cons x l => exact ReprK.list ho hc hd na (by simpa using k.length_eq) (fun i y e => k.item i y (by simpa using e))
theorem RdK.tup {P : Program} {w : World} {h : Heap} {a : Addr} {o : Obj} {vs : Array Value} {n : Nat} {ds : List PyData} (ho : h.get? a = some o) (hc : o.cls = .type "tuple") (hd : o.data = .seq vs n)
    (y : RdA P w h vs.toList ds) : RdK P w h (.ref a) (.tuple ds) := by
  obtain ⟨as, r, bs, m, k⟩ := y
  have rr : Reads h (.ref a) (.tuple ds) _ := .tuple ho hc hd r
  have na : a ∉ bs := not_mem_of_deeper rr (by simp only [PyData.depth]; omega) m
  refine ⟨_, rr, a :: bs, ReadAtMost.cons rr (by simp only [PyData.depth]; omega) m, ?_⟩
  simp only [PyData.depth, PyData.shown]
  exact ReprK.tuple ho hc hd na k
theorem RdK.dct {P : Program} {w : World} {h : Heap} {a : Addr} {o : Obj} {es : Array DictEntry} {n : Nat} {ps : List (PyData × PyData)} (ho : h.get? a = some o) (hc : o.cls = .type "dict") (hd : o.data = .dict es n)
    (hm : (a == sysModules) = false) (y : RdA P w h (es.toList.map (·.key)) (ps.map (·.1))) (z : RdA P w h (es.toList.map (·.val)) (ps.map (·.2))) : RdK P w h (.ref a) (.dict ps) := by
  obtain ⟨a1, r1, b1, m1, k1⟩ := y
  obtain ⟨a2, r2, b2, m2, k2⟩ := z
  have rr : Reads h (.ref a) (.dict ps) _ := .dict ho hc hd r1 r2
  have m : ReadAtMost h (PyData.depthKv ps) (b1 ++ b2) := (m1.mono (PyData.depthAll_keys_le ps)).append (m2.mono (PyData.depthAll_vals_le ps))
  have na : a ∉ b1 ++ b2 := not_mem_of_deeper rr (by simp only [PyData.depth]; omega) m
  refine ⟨_, rr, a :: (b1 ++ b2), ReadAtMost.cons rr (by simp only [PyData.depth]; omega) m, ?_⟩
  simp only [PyData.depth, PyData.shown, PyData.shownKv_eq]
  refine ReprK.dict ho hc hd hm na (ReprEntriesK.of_two _ _ _ (k1.more_le (fun b q => ?_) (PyData.depthAll_keys_le ps)) (k2.more_le (fun b q => ?_) (PyData.depthAll_vals_le ps)))
  · exact List.mem_append_left _ q
  · exact List.mem_append_right _ q
theorem shown_in {ds : List PyData} {m : Nat} (e : ∀ t ∈ PyData.shownAll ds, t.length ≤ m) {d : PyData} (h : d ∈ ds) : d.shown.length ≤ m := by
  induction ds with
  | nil => exact nomatch h
  | cons x r ih =>
    rw [PyData.shownAll] at e
    rcases List.mem_cons.mp h with rfl | h
    · exact e _ List.mem_cons_self
    · exact ih (fun t ht => e t (List.mem_cons_of_mem _ ht)) h
mutual
theorem Dq.rd (I : Inv X pins σ H s) : ∀ (d : PyData) (v : V) (u : Value), Dq X.K H v d → RelV v u → d.showable = true → d.shown.length ≤ sizeLine → RdK X.prog X.w s.heap u d
  | .none, _, _, h, r, _, _ => by
    cases h
    cases r
    refine ⟨_, .none, [], (fun _ z => nomatch z), ?_⟩
    simp only [PyData.shown]
    exact .of_is ReprIs.none _ _ _
  | .bool b, _, _, h, r, _, _ => by
    cases h
    cases r
    refine ⟨_, .bool b, [], (fun _ z => nomatch z), ?_⟩
    simp only [PyData.shown]
    exact .of_is (ReprIs.bool b) _ _ _
  | .int i, _, _, h, r, hs, _ => by
    cases h
    obtain ⟨t, rfl⟩ := r
    exact keyD_rd (k := .inl i) (keyIs_int i t) hs (by simp only [keyD, PyData.shown]; exact int_text_fits (by simpa [PyData.showable] using hs))
  | .str x, _, _, h, r, hs, hz => by
    cases h
    obtain ⟨t, rfl⟩ := r
    exact keyD_rd (k := .inr x) (keyIs_str x t) hs hz
  | .list ds, _, _, h, r, hs, hz => by
    cases h with
    | lst hq ha =>
      cases r
      obtain ⟨its, rv, ⟨o, n, ho, hc, _, hd⟩, _⟩ := I.list hq
      refine RdK.lst ho hc hd (Dq.rdAll I ds _ its ha rv (by simpa [PyData.showable] using hs) fun t ht => ?_)
      rw [PyData.shown] at hz
      exact Nat.le_trans (listText_mem_le ht) hz
  | .tuple ds, _, _, h, r, hs, hz => by
    cases h with
    | tup hq ha =>
      cases r
      obtain ⟨its, rv, ⟨o, ho, hc, n, hd⟩, _⟩ := I.tuple hq
      refine RdK.tup ho hc hd (Dq.rdAll I ds _ its ha rv (by simpa [PyData.showable] using hs) fun t ht => ?_)
      rw [PyData.shown] at hz
      exact Nat.le_trans (tupleText_mem_le ht) hz
  | .dict ps, _, _, h, r, hs, hz => by
    cases h with
    | dct hq ha =>
      cases r
      obtain ⟨_, hm, vs, kv, o, es, n, ho, hx, hd, _, hp, _⟩ := dk_rd I.hok (.inl hq)
      have hz' : ∀ t ∈ PyData.shownKv ps, t.length ≤ sizeLine := fun t ht => by
        rw [PyData.shown] at hz
        exact Nat.le_trans (dictText_mem_le ht) hz
      obtain ⟨y, z⟩ := Dq.rdKv I ps _ vs es.toList ha kv hp (by simpa [PyData.showable] using hs) hz'
      exact RdK.dct ho hx.1 hd hm y z
theorem Dq.rdAll (I : Inv X pins σ H s) : ∀ (ds : List PyData) (vs : List V) (us : List Value), DqAll X.K H vs ds → Vals vs us → PyData.showableAll ds = true → (∀ t ∈ PyData.shownAll ds, t.length ≤ sizeLine) → RdA X.prog X.w s.heap us ds
  | [], _, _, h, r, _, _ => by
    cases h
    cases r
    exact .nil
  | d :: ds, _, _, h, r, hs, hz => by
    cases h with
    | cons h1 h2 =>
      cases r with
      | cons r1 r2 =>
        have hs' : d.showable = true ∧ PyData.showableAll ds = true := by simpa [PyData.showableAll] using hs
        rw [PyData.shownAll] at hz
        exact RdA.cons (Dq.rd I d _ _ h1 r1 hs'.1 (hz _ List.mem_cons_self)) (Dq.rdAll I ds _ _ h2 r2 hs'.2 fun t ht => hz t (List.mem_cons_of_mem _ ht))
theorem Dq.rdKv (I : Inv X pins σ H s) : ∀ (ps : List (PyData × PyData)) (kvs : List (Key × V)) (vs : List (Key × Value)) (es : List DictEntry), DqKv X.K H kvs ps → KV kvs vs → Pairs (mixKind X.prog X.w) es vs →
    PyData.showableKv ps = true → (∀ t ∈ PyData.shownKv ps, t.length ≤ sizeLine) → RdA X.prog X.w s.heap (es.map (·.key)) (ps.map (·.1)) ∧ RdA X.prog X.w s.heap (es.map (·.val)) (ps.map (·.2))
  | [], _, _, _, h, r, p, _, _ => by
    cases h
    cases r
    cases p
    exact ⟨.nil, .nil⟩
  | (kd, d) :: ps, _, _, _, h, r, p, hs, hz => by
    cases h with
    | cons h1 h2 =>
      cases r with
      | cons r1 r2 =>
        cases p with
        | cons p1 p2 p3 =>
          obtain ⟨e1, e2⟩ := r1
          rw [PyData.showableKv] at hs
          have hs' := (Bool.and_eq_true _ _).mp hs
          have hs1 := (Bool.and_eq_true _ _).mp hs'.1
          rw [PyData.shownKv] at hz
          have hl := hz _ List.mem_cons_self
          rw [strLen_append, strLen_append] at hl
          obtain ⟨y, z⟩ := Dq.rdKv I ps _ _ _ h2 r2 p3 hs'.2 fun t ht => hz t (List.mem_cons_of_mem _ ht)
          refine ⟨RdA.cons (keyD_rd ?_ hs1.1 (by omega)) y, RdA.cons ?_ z⟩
          · dsimp only at e1 ⊢
            rw [e1]
            exact p1
          · dsimp only at p2 e2 ⊢
            rw [p2]
            exact Dq.rd I d _ _ h1 e2 hs1.2 (by omega)
end
end
/-- repr(v), v data of any kind that a heap bears -/
def rRepQ (K : PySem.W.Frag) : List V → Hp → VK → Prop := fun xs H Q => ∃ v d, xs = [v] ∧ Dq K H v d ∧
  d.showable = true ∧ d.depth ≤ 62 ∧ d.shown.length ≤ sizeLine ∧ Q (.str d.shown) H
theorem call_repQ {X : Cx} {k : Nat} (hr : Room k X.A) (hg : X.A.guards = some []) : CallR X (.builtin "repr") (rRepQ X.K) := by
  intro pins s σ H xs us Q I r h
  obtain ⟨v, d, rfl, hd, h1, h3, h4, q⟩ := h
  obtain ⟨u, rfl, ru⟩ := vals1 r
  have hu := hr.units
  have hg1 : X.A.in1.guards = some [] := hg
  match d, hd, h1, h3, h4, q with
  | .none, hd, _, _, _, q =>
    cases hd
    cases ru
    exact P.repr_of_none ⟨.str _, H, I.tok _, ⟨_, rfl⟩, by rw [PyData.shown] at q; exact q⟩
  | .bool b, hd, _, _, _, q =>
    cases hd
    cases ru
    exact P.repr_of_bool ⟨.str _, H, I.tok _, ⟨_, rfl⟩, by rw [PyData.shown] at q; exact q⟩
  | .int i, hd, h1, _, _, q =>
    cases hd
    obtain ⟨t, rfl⟩ := ru
    exact P.repr_of_int (by simpa [PyData.showable] using h1) ⟨.str _, H, I.tok _, ⟨_, rfl⟩, by rw [PyData.shown] at q; exact q⟩
  | .str x, hd, _, _, h4, q =>
    cases hd
    obtain ⟨t, rfl⟩ := ru
    exact P.repr_of_str ⟨.str _, H, I.tok _, ⟨_, rfl⟩, by rw [PyData.shown] at q; exact q⟩ (by rw [PyData.shown] at h4; exact h4)
  | .list ds, hd, h1, h3, h4, q =>
    cases hd with
    | lst hq ha =>
      cases ru
      obtain ⟨its, rv, ⟨o, n, ho, hc, _, hd⟩, _⟩ := I.list hq
      rw [PyData.shown] at h4 q
      obtain ⟨as, r, bs, m, k⟩ := Dq.rdAll I ds _ its ha rv (by simpa [PyData.showable] using h1) fun t ht => Nat.le_trans (listText_mem_le ht) h4
      have rr : Reads s.heap _ (.list ds) _ := .list ho hc hd r
      have na := not_mem_of_deeper rr (by simp only [PyData.depth]; omega) m
      simp only [PyData.depth] at h3
      refine call_repr_slot (by omega) ⟨o, ho, hc⟩ F.slot_list_repr.toG ?_
      cases its with
      | nil =>
        cases r
        rw [PyData.shownAll, listText_nil] at q
        exact call_list_repr_empty ⟨o, ho, hc⟩ ho hd ⟨_, _, rfl, .str _, H, I.kept (fun _ _ e => e), ⟨_, rfl⟩, q⟩
      | cons x l =>
        exact call_list_reprK ho hc hd na (by simpa using k.length_eq) (fun i y e => k.item i y (by simpa using e)) hg1 (fun b _ => Clear.nil b) (by show X.A.units + 1 + _ < cLine; omega) (fun _ _ e => e)
          (fun h' u tk hk => ⟨_, _, rfl, .str _, H, I.kept hk, ⟨_, rfl⟩, q⟩) h4
  | .tuple ds, hd, h1, h3, h4, q =>
    cases hd with
    | tup hq ha =>
      cases ru
      obtain ⟨its, rv, ⟨o, ho, hc, n, hd⟩, _⟩ := I.tuple hq
      rw [PyData.shown] at h4 q
      obtain ⟨as, r, bs, m, k⟩ := Dq.rdAll I ds _ its ha rv (by simpa [PyData.showable] using h1) fun t ht => Nat.le_trans (tupleText_mem_le ht) h4
      have rr : Reads s.heap _ (.tuple ds) _ := .tuple ho hc hd r
      have na := not_mem_of_deeper rr (by simp only [PyData.depth]; omega) m
      simp only [PyData.depth] at h3
      refine call_repr_slot (by omega) ⟨o, ho, hc⟩ F.slot_tuple_repr ?_
      exact call_tuple_reprK ho hc hd na k hg1 (fun b _ => Clear.nil b) (by show X.A.units + 1 + _ < cLine; omega) (fun _ _ e => e)
          (fun h' u tk hk => ⟨_, _, rfl, .str _, H, I.kept hk, ⟨_, rfl⟩, q⟩) h4
  | .dict ps, hd, h1, h3, h4, q =>
    cases hd with
    | dct hq ha =>
      cases ru
      obtain ⟨_, hm, vs, kv, o, es, n, ho, hx, hd, _, hp, _⟩ := dk_rd I.hok (.inl hq)
      rw [PyData.shown] at h4 q
      obtain ⟨⟨a1, r1, b1, m1, k1⟩, a2, r2, b2, m2, k2⟩ := Dq.rdKv I ps _ vs es.toList ha kv hp (by simpa [PyData.showable] using h1) fun t ht => Nat.le_trans (dictText_mem_le ht) h4
      have rr : Reads s.heap _ (.dict ps) _ := .dict ho hx.1 hd r1 r2
      have m : ReadAtMost s.heap (PyData.depthKv ps) (b1 ++ b2) := (m1.mono (PyData.depthAll_keys_le ps)).append (m2.mono (PyData.depthAll_vals_le ps))
      have na := not_mem_of_deeper rr (by simp only [PyData.depth]; omega) m
      simp only [PyData.depth] at h3
      rw [PyData.shownKv_eq] at h4 q
      refine call_repr_slot (by omega) ⟨o, ho, hx.1⟩ F.slot_dict_repr ?_
      exact call_dict_reprK ho hx.1 hd hm na (ReprEntriesK.of_two _ _ _ (k1.more_le (fun b z => List.mem_append_left _ z) (PyData.depthAll_keys_le ps)) (k2.more_le (fun b z => List.mem_append_right _ z) (PyData.depthAll_vals_le ps)))
        hg1 (fun b _ => Clear.nil b) (by show X.A.units + 1 + _ < cLine; omega) (fun _ _ e => e) (fun h' u tk hk => ⟨_, _, rfl, .str _, H, I.kept hk, ⟨_, rfl⟩, q⟩) h4
end Loc

set_option Elab.async false
set_option linter.all false
set_option maxRecDepth 100000
namespace Loc
open PySem PySem.Spec PyProof.Rows L2
/-! ### bools among numbers -/
def isNum : V → Int → Prop
  | .int i, j => i = j
  | .bl b, j => (if b = true then (1 : Int) else 0) = j
  | _, _ => False
section
variable {X : Cx}
def rNumI (f : Int → Int → Int) : R2 := fun x y H Q => ∃ i j, isNum x i ∧ y = .int j ∧ Q (.int (f i j)) H
theorem op_addB : OpR X (binaryOp .Add) (rNumI fun i j => i + j) := by
  intro pins s σ H x y v u Q I rx ry h
  obtain ⟨i, j, hx, rfl, q⟩ := h
  obtain ⟨t, rfl⟩ := ry
  cases x with
  | int a =>
    obtain rfl : a = i := hx
    obtain ⟨t', rfl⟩ := rx
    exact add_int ⟨.int _, H, I.tok _, ⟨_, rfl⟩, q⟩
  | bl b =>
    obtain rfl : (if b = true then (1 : Int) else 0) = i := hx
    cases rx
    exact PySem.IntBool.add_bool_int ⟨.int _, H, I.tok _, ⟨_, rfl⟩, q⟩
  | _ => exact (show False from hx).elim
theorem op_subB : OpR X (binaryOp .Sub) (rNumI fun i j => i - j) := by
  intro pins s σ H x y v u Q I rx ry h
  obtain ⟨i, j, hx, rfl, q⟩ := h
  obtain ⟨t, rfl⟩ := ry
  cases x with
  | int a =>
    obtain rfl : a = i := hx
    obtain ⟨t', rfl⟩ := rx
    exact sub_int ⟨.int _, H, I.tok _, ⟨_, rfl⟩, q⟩
  | bl b =>
    obtain rfl : (if b = true then (1 : Int) else 0) = i := hx
    cases rx
    exact PySem.IntBool.sub_bool_int ⟨.int _, H, I.tok _, ⟨_, rfl⟩, q⟩
  | _ => exact (show False from hx).elim
/-- str(x), x a number -/
def rStrB : List V → Hp → VK → Prop := fun xs H Q => (∃ i : Int, xs = [.int i] ∧ i.natAbs.log2 < 1920 ∧ Q (.str (toString i)) H) ∨ ∃ b : Bool, xs = [.bl b] ∧ Q (.str (if b then "True" else "False")) H
theorem call_strB : CallR X (.type "str") rStrB := by
  intro pins s σ H xs us Q I r h
  rcases h with ⟨i, rfl, hz, q⟩ | ⟨b, rfl, q⟩
  · obtain ⟨u, rfl, t, rfl⟩ := vals1 r
    exact PySem.P.str_of_int hz ⟨.str _, H, I.tok _, ⟨_, rfl⟩, q⟩
  · obtain ⟨u, rfl, r1⟩ := vals1 r
    cases r1
    exact PySem.P.str_of_bool ⟨.str _, H, I.tok _, ⟨_, rfl⟩, q⟩
/-- t != () -/
def rNeT0 (K : PySem.W.Frag) : R2 := fun x y H Q => ∃ a b xs, x = .ref a ∧ y = .ref b ∧ SqT K H a xs ∧ SqT K H b [] ∧ Q (.bl (!xs.isEmpty)) H
theorem op_neT0 (hu : X.A.units + 64 < cLine) : OpR X (compareOp .NotEq) (rNeT0 X.K) := by
  intro pins s σ H x y v u Q I rx ry h
  obtain ⟨a, b, xs, rfl, rfl, ha, hb, q⟩ := h
  cases rx
  cases ry
  obtain ⟨its, r1, p1, _⟩ := I.tuple ha
  obtain ⟨its2, r2, p2, _⟩ := I.tuple hb
  cases r2
  refine SeqAt.RcNeAt.tuples (A := X.A) (e := fun _ => true) p1 p2 (by omega) (fun j h1 h2 => absurd h2 (Nat.not_lt_zero j)) _ _ _ _ ⟨.bl (!xs.isEmpty), H, I, ?_, q⟩
  have e := r1.length
  show Value.bool _ = Value.bool _
  cases xs with
  | nil =>
    cases r1
    rfl
  | cons x r =>
    cases r1
    rfl
end
/-! ### the heap beside some lists -/
open Classical in
noncomputable def wo (S : Addr → Prop) (H : Hp) : Hp := fun b => if S b then none else H b
/-- lists stand there -/
def Kp (S : Addr → Prop) (H : Hp) : Prop := ∀ a, S a → ∃ ys, H a = some (.lst ys)
theorem wo_ne {S : Addr → Prop} {b : Addr} {H : Hp} (h : ¬ S b) : wo S H b = H b := by
  unfold wo
  rw [if_neg h]
theorem wo_in {S : Addr → Prop} {b : Addr} {H : Hp} (h : S b) : wo S H b = none := by
  unfold wo
  rw [if_pos h]
theorem wo_same {S : Addr → Prop} {H : Hp} : Same (wo S H) H := fun b o h => by
  by_cases e : S b
  · rw [wo_in e] at h
    cases h
  · rw [wo_ne e] at h
    exact h
theorem wo_up {S : Addr → Prop} {H H' : Hp} (s : Same H H') : Same (wo S H) (wo S H') := fun b o h => by
  by_cases e : S b
  · rw [wo_in e] at h
    cases h
  · rw [wo_ne e] at h ⊢
    exact s b o h
theorem But.wo {p : Addr} {S : Addr → Prop} {H H' : Hp} (hS : S p) (s : But p H H') : Same (Loc.wo S H) (Loc.wo S H') := fun b o h => by
  by_cases e : S b
  · rw [wo_in e] at h
    cases h
  · rw [wo_ne e] at h ⊢
    exact s b o (fun z => e (by rw [z]; exact hS)) h
theorem Kp.up {S : Addr → Prop} {H H' : Hp} (k : Kp S H) (s : Same H H') : Kp S H' := fun a h => let ⟨ys, e⟩ := k a h; ⟨ys, s _ _ e⟩
theorem Kp.but {p : Addr} {c : Nat} {S : Addr → Prop} {H H' : Hp} (k : Kp S H) (s : But p H H') (hp : Pot H' p c) : Kp S H' := fun a h => by
  by_cases e : a = p
  · rw [e]
    exact hp.ls
  · obtain ⟨ys, z⟩ := k a h
    exact ⟨ys, s a _ e z⟩
theorem Kp.new {S : Addr → Prop} {H : Hp} {q : Addr} (k : Kp S H) (h : H q = none) : ¬ S q := fun z => by
  obtain ⟨ys, e⟩ := k q z
  rw [h] at e
  cases e
/-- more lists are left aside -/
theorem wo_less {S T : Addr → Prop} {H : Hp} (h : ∀ a, T a → S a) : Same (Loc.wo S H) (Loc.wo T H) := fun b o e => by
  by_cases z : S b
  · rw [wo_in z] at e
    cases e
  · rw [wo_ne z] at e
    rw [wo_ne (fun t => z (h b t))]
    exact e
mutual
theorem Dq.up {K : PySem.W.Frag} {H H' : Hp} (e : Same H H') : ∀ {v : V} {d : PyData}, Dq K H v d → Dq K H' v d
  | _, _, .non => .non
  | _, _, .bl b => .bl b
  | _, _, .int i => .int i
  | _, _, .str x => .str x
  | _, _, .lst h t => .lst (e.seq h) (DqAll.up e t)
  | _, _, .tup h t => .tup (sameT e h) (DqAll.up e t)
  | _, _, .dct h t => .dct (e _ _ h) (DqKv.up e t)
theorem DqAll.up {K : PySem.W.Frag} {H H' : Hp} (e : Same H H') : ∀ {vs : List V} {ds : List PyData}, DqAll K H vs ds → DqAll K H' vs ds
  | _, _, .nil => .nil
  | _, _, .cons h t => .cons (Dq.up e h) (DqAll.up e t)
theorem DqKv.up {K : PySem.W.Frag} {H H' : Hp} (e : Same H H') : ∀ {vs : List (Key × V)} {ds : List (PyData × PyData)}, DqKv K H vs ds → DqKv K H' vs ds
  | _, _, .nil => .nil
  | _, _, .cons h t => .cons (Dq.up e h) (DqKv.up e t)
end
theorem DqAll.len {K : PySem.W.Frag} {H : Hp} : ∀ {vs : List V} {ds : List PyData}, DqAll K H vs ds → vs.length = ds.length
  | _, _, .nil => rfl
  | _, _, .cons _ t => congrArg (· + 1) (DqAll.len t)
theorem DqAll.get {K : PySem.W.Frag} {H : Hp} : ∀ {vs : List V} {ds : List PyData} {i : Nat} {v : V}, DqAll K H vs ds → vs[i]? = some v → ∃ d, ds[i]? = some d ∧ Dq K H v d
  | _, _, _, _, .nil, e => by simp at e
  | _, _, 0, _, .cons h _, e => by
    simp only [List.getElem?_cons_zero, Option.some.injEq] at e
    subst e
    exact ⟨_, rfl, h⟩
  | _, _, i + 1, _, .cons _ t, e => by
    simp only [List.getElem?_cons_succ] at e ⊢
    exact DqAll.get t e
theorem DqAll.at {K : PySem.W.Frag} {H : Hp} {vs : List V} {ds : List PyData} {i : Nat} {d : PyData} (h : DqAll K H vs ds) (e : ds[i]? = some d) : ∃ v, vs[i]? = some v ∧ Dq K H v d := by
  have l := h.len
  have i1 := (List.getElem?_eq_some_iff.mp e).1
  obtain ⟨v, hv⟩ := get_of (l := vs) (i := i) (by omega)
  obtain ⟨d', e', q⟩ := h.get hv
  rw [e] at e'
  cases e'
  exact ⟨v, hv, q⟩
theorem DqAll.app {K : PySem.W.Frag} {H : Hp} : ∀ {vs us : List V} {ds es : List PyData}, DqAll K H vs ds → DqAll K H us es → DqAll K H (vs ++ us) (ds ++ es)
  | _, _, _, _, .nil, k => k
  | _, _, _, _, .cons h t, k => .cons h (DqAll.app t k)
theorem DqAll.take {K : PySem.W.Frag} {H : Hp} : ∀ {vs : List V} {ds : List PyData} (n : Nat), DqAll K H vs ds → DqAll K H (vs.take n) (ds.take n)
  | _, _, 0, _ => by simpa using DqAll.nil
  | _, _, n + 1, .nil => by simpa using DqAll.nil
  | _, _, n + 1, .cons h t => by
    rw [List.take_succ_cons, List.take_succ_cons]
    exact .cons h (DqAll.take n t)
theorem DqAll.drop {K : PySem.W.Frag} {H : Hp} : ∀ {vs : List V} {ds : List PyData} (n : Nat), DqAll K H vs ds → DqAll K H (vs.drop n) (ds.drop n)
  | _, _, 0, h => by simpa using h
  | _, _, n + 1, .nil => by simpa using DqAll.nil
  | _, _, n + 1, .cons h t => by
    rw [List.drop_succ_cons, List.drop_succ_cons]
    exact DqAll.drop n t
theorem DqAll.rev {K : PySem.W.Frag} {H : Hp} : ∀ {vs : List V} {ds : List PyData}, DqAll K H vs ds → DqAll K H vs.reverse ds.reverse
  | _, _, .nil => by simpa using DqAll.nil
  | _, _, .cons h t => by
    rw [List.reverse_cons, List.reverse_cons]
    exact DqAll.app (DqAll.rev t) (.cons h .nil)
theorem Dq.tupI {K : PySem.W.Frag} {H : Hp} {v : V} {ds : List PyData} (h : Dq K H v (.tuple ds)) : ∃ a vs, v = .ref a ∧ SqT K H a vs ∧ DqAll K H vs ds := by
  cases h with
  | tup h1 h2 => exact ⟨_, _, rfl, h1, h2⟩
/-! ### what kind a value is of -/
def tyD : PyData → String
  | .none => "NoneType" | .bool _ => "bool" | .int _ => "int" | .str _ => "str" | .list _ => "list" | .tuple _ => "tuple" | .dict _ => "dict"
theorem SqL.ty {K : PySem.W.Frag} {H : Hp} {a : Addr} {xs : List V} (h : SqL K H a xs) : TyX K H (.ref a) (.type "list") := by
  rcases h with (h | ⟨o, h⟩) | ⟨o, its, n, h1, h2, _⟩
  · exact .base (.lst h)
  · exact .base (.frz h)
  · exact .kList h1 h2
theorem Dq.ty {K : PySem.W.Frag} {H H' : Hp} (s : Same H H') {v : V} {d : PyData} (h : Dq K H v d) : TyX K H' v (.type (tyD d)) := by
  cases h with
  | non => exact .base .non
  | bl b => exact .base (.bl b)
  | int i => exact .base (.int i)
  | str x => exact .base (.str x)
  | lst h _ => exact SqL.ty (s.seq h)
  | tup h _ => exact Loc.SqT.ty (sameT s h)
  | dct h _ => exact .base (.dK (s _ _ h))
def isaB (d : PyData) (t : String) : Bool := (kitB (tyD d) t).getD false
theorem isi_any {K : PySem.W.Frag} {H H' : Hp} (s : Same H H') {v : V} {d : PyData} {t : String} {b : Bool} {Q : VK} (h : Dq K H v d) (e : kitB (tyD d) t = some b) (q : Q (.bl b) H') : rIsi K [v, .ty t] H' Q :=
  ⟨_, _, _, _, b, rfl, .ty t, h.ty s, kit_ty e, q⟩
theorem kit_all : kitB "NoneType" "int" = some false ∧ kitB "bool" "int" = some true ∧ kitB "int" "int" = some true ∧ kitB "str" "int" = some false ∧ kitB "list" "int" = some false ∧ kitB "tuple" "int" = some false ∧ kitB "dict" "int" = some false ∧
    kitB "NoneType" "bool" = some false ∧ kitB "bool" "bool" = some true ∧ kitB "int" "bool" = some false ∧ kitB "str" "bool" = some false ∧ kitB "list" "bool" = some false ∧ kitB "tuple" "bool" = some false ∧ kitB "dict" "bool" = some false ∧
    kitB "NoneType" "str" = some false ∧ kitB "bool" "str" = some false ∧ kitB "int" "str" = some false ∧ kitB "str" "str" = some true ∧ kitB "list" "str" = some false ∧ kitB "tuple" "str" = some false ∧ kitB "dict" "str" = some false ∧
    kitB "NoneType" "tuple" = some false ∧ kitB "bool" "tuple" = some false ∧ kitB "int" "tuple" = some false ∧ kitB "str" "tuple" = some false ∧ kitB "list" "tuple" = some false ∧ kitB "tuple" "tuple" = some true ∧ kitB "dict" "tuple" = some false := by decide +kernel
def isIntD : PyData → Bool
  | .int _ => true | .bool _ => true | _ => false
def isBoolD : PyData → Bool
  | .bool _ => true | _ => false
def isStrD : PyData → Bool
  | .str _ => true | _ => false
def isTupD : PyData → Bool
  | .tuple _ => true | _ => false
theorem kit_int (d : PyData) : kitB (tyD d) "int" = some (isIntD d) := by
  obtain ⟨a1, a2, a3, a4, a5, a6, a7, b1, b2, b3, b4, b5, b6, b7, c1, c2, c3, c4, c5, c6, c7, d1, d2, d3, d4, d5, d6, d7⟩ := kit_all
  cases d <;> assumption
theorem kit_bool (d : PyData) : kitB (tyD d) "bool" = some (isBoolD d) := by
  obtain ⟨a1, a2, a3, a4, a5, a6, a7, b1, b2, b3, b4, b5, b6, b7, c1, c2, c3, c4, c5, c6, c7, d1, d2, d3, d4, d5, d6, d7⟩ := kit_all
  cases d <;> assumption
theorem kit_str (d : PyData) : kitB (tyD d) "str" = some (isStrD d) := by
  obtain ⟨a1, a2, a3, a4, a5, a6, a7, b1, b2, b3, b4, b5, b6, b7, c1, c2, c3, c4, c5, c6, c7, d1, d2, d3, d4, d5, d6, d7⟩ := kit_all
  cases d <;> assumption
theorem kit_tup (d : PyData) : kitB (tyD d) "tuple" = some (isTupD d) := by
  obtain ⟨a1, a2, a3, a4, a5, a6, a7, b1, b2, b3, b4, b5, b6, b7, c1, c2, c3, c4, c5, c6, c7, d1, d2, d3, d4, d5, d6, d7⟩ := kit_all
  cases d <;> assumption
end Loc

set_option Elab.async false
set_option linter.all false
set_option maxRecDepth 100000
namespace Loc
open PySem PySem.Spec PyProof.Rows L2
/-! ### how great data may be -/
mutual
def nc (t : Nat) : PyData → Bool
  | .none => true
  | .bool _ => true
  | .int i => decide (i.natAbs ≤ (t + 1) * 10 ^ 60)
  | .str x => decide (x.length ≤ 70 + t) && x.cps.toList.all fun c => decide (c < 16 ^ 8)
  | .list xs => ncAll t xs
  | .tuple xs => ncAll t xs
  | .dict kvs => ncKv t kvs
def ncAll (t : Nat) : List PyData → Bool
  | [] => true
  | x :: r => nc t x && ncAll t r
def ncKv (t : Nat) : List (PyData × PyData) → Bool
  | [] => true
  | (k, v) :: r => nc t k && nc t v && ncKv t r
end
theorem ncAll_mem {t : Nat} : ∀ {ds : List PyData}, ncAll t ds = true ↔ ∀ d ∈ ds, nc t d = true
  | [] => ⟨fun _ d h => (nomatch h), fun _ => by rw [ncAll]⟩
  | x :: r => by
    rw [ncAll, Bool.and_eq_true, ncAll_mem]
    simp
theorem pow_le_mul {t u : Nat} (h : t ≤ u) : (t + 1) * 10 ^ 60 ≤ (u + 1) * 10 ^ 60 := Nat.mul_le_mul_right _ (by omega)
mutual
theorem nc_up {t u : Nat} (l : t ≤ u) : ∀ d : PyData, nc t d = true → nc u d = true
  | .none, _ => by rw [nc]
  | .bool _, _ => by rw [nc]
  | .int i, h => by
    rw [nc] at h ⊢
    exact decide_eq_true (Nat.le_trans (of_decide_eq_true h) (pow_le_mul l))
  | .str x, h => by
    rw [nc, Bool.and_eq_true] at h ⊢
    exact ⟨decide_eq_true (Nat.le_trans (of_decide_eq_true h.1) (by omega)), h.2⟩
  | .list xs, h => by
    rw [nc] at h ⊢
    exact ncAll_up l xs h
  | .tuple xs, h => by
    rw [nc] at h ⊢
    exact ncAll_up l xs h
  | .dict kvs, h => by
    rw [nc] at h ⊢
    exact ncKv_up l kvs h
theorem ncAll_up {t u : Nat} (l : t ≤ u) : ∀ ds : List PyData, ncAll t ds = true → ncAll u ds = true
  | [], _ => by rw [ncAll]
  | x :: r, h => by
    rw [ncAll, Bool.and_eq_true] at h ⊢
    exact ⟨nc_up l x h.1, ncAll_up l r h.2⟩
theorem ncKv_up {t u : Nat} (l : t ≤ u) : ∀ ds : List (PyData × PyData), ncKv t ds = true → ncKv u ds = true
  | [], _ => by rw [ncKv]
  | (k, v) :: r, h => by
    rw [ncKv, Bool.and_eq_true, Bool.and_eq_true] at h ⊢
    exact ⟨⟨nc_up l k h.1.1, nc_up l v h.1.2⟩, ncKv_up l r h.2⟩
end
theorem log_of_nc {t : Nat} {n : Nat} (ht : t ≤ 5) (h : n ≤ (t + 1) * 10 ^ 60) : n < 10 ^ 62 ∧ n.log2 < 1920 := by
  have h1 : (t + 1) * 10 ^ 60 ≤ 6 * 10 ^ 60 := Nat.mul_le_mul_right _ (by omega)
  have h2 : n < 10 ^ 62 := Nat.lt_of_le_of_lt (Nat.le_trans h h1) (by decide)
  refine ⟨h2, ?_⟩
  by_cases e : n = 0
  · rw [e]
    decide
  · exact (Nat.log2_lt e).mpr (Nat.lt_trans h2 (by decide +kernel))
mutual
theorem nc_ok {t : Nat} (ht : t ≤ 5) : ∀ d : PyData, nc t d = true → d.leavesShort 100 = true ∧ d.showable = true
  | .none, _ => by simp [PyData.leavesShort, PyData.showable]
  | .bool _, _ => by simp [PyData.leavesShort, PyData.showable]
  | .int i, h => by
    rw [nc] at h
    obtain ⟨h1, h2⟩ := log_of_nc ht (of_decide_eq_true h)
    refine ⟨?_, ?_⟩
    · rw [PyData.leavesShort]
      have e := int_text_length_le10 (k := 62) (by decide) h1
      refine decide_eq_true ?_
      rw [PyData.shown]
      show (Str.ofString (toString i)).length ≤ 100
      rw [PySem.ofString_length]
      omega
    · rw [PyData.showable]
      exact decide_eq_true h2
  | .str x, h => by
    rw [nc, Bool.and_eq_true] at h
    refine ⟨?_, ?_⟩
    · rw [PyData.leavesShort]
      exact h.2
    · rw [PyData.showable]
  | .list xs, h => by
    rw [nc] at h
    rw [PyData.leavesShort, PyData.showable]
    exact ncAll_ok ht xs h
  | .tuple xs, h => by
    rw [nc] at h
    rw [PyData.leavesShort, PyData.showable]
    exact ncAll_ok ht xs h
  | .dict kvs, h => by
    rw [nc] at h
    rw [PyData.leavesShort, PyData.showable]
    exact ncKv_ok ht kvs h
theorem ncAll_ok {t : Nat} (ht : t ≤ 5) : ∀ ds : List PyData, ncAll t ds = true → PyData.leavesShortAll 100 ds = true ∧ PyData.showableAll ds = true
  | [], _ => by simp [PyData.leavesShortAll, PyData.showableAll]
  | x :: r, h => by
    rw [ncAll, Bool.and_eq_true] at h
    have h1 := nc_ok ht x h.1
    have h2 := ncAll_ok ht r h.2
    rw [PyData.leavesShortAll, PyData.showableAll, h1.1, h1.2, h2.1, h2.2]
    exact ⟨rfl, rfl⟩
theorem ncKv_ok {t : Nat} (ht : t ≤ 5) : ∀ ds : List (PyData × PyData), ncKv t ds = true → PyData.leavesShortKv 100 ds = true ∧ PyData.showableKv ds = true
  | [], _ => by simp [PyData.leavesShortKv, PyData.showableKv]
  | (k, v) :: r, h => by
    rw [ncKv, Bool.and_eq_true, Bool.and_eq_true] at h
    have h1 := nc_ok ht k h.1.1
    have h2 := nc_ok ht v h.1.2
    have h3 := ncKv_ok ht r h.2
    rw [PyData.leavesShortKv, PyData.showableKv, h1.1, h1.2, h2.1, h2.2, h3.1, h3.2]
    exact ⟨rfl, rfl⟩
end
/-- numbers below 10^60 · (t + 1), texts of about 70 signs, nested at most m times, of at most b items in all -/
def sm (t m b : Nat) (d : PyData) : Prop := nc t d = true ∧ d.depth ≤ m ∧ d.bulk ≤ b
def smB (t m b : Nat) (d : PyData) : Bool := nc t d && decide (d.depth ≤ m) && decide (d.bulk ≤ b)
theorem sm_of {t m b : Nat} {d : PyData} (h : smB t m b d = true) : sm t m b d := by
  unfold smB at h
  rw [Bool.and_eq_true, Bool.and_eq_true] at h
  exact ⟨h.1.1, of_decide_eq_true h.1.2, of_decide_eq_true h.2⟩
theorem sm.up {t m b t' m' b' : Nat} {d : PyData} (h : sm t m b d) (h1 : t ≤ t') (h2 : m ≤ m') (h3 : b ≤ b') : sm t' m' b' d := ⟨nc_up h1 d h.1, Nat.le_trans h.2.1 h2, Nat.le_trans h.2.2 h3⟩
/-- what repr asks of such data -/
theorem rep_any {K : PySem.W.Frag} {H H' : Hp} (s : Same H H') {v : V} {d : PyData} {t m b : Nat} {Q : VK} (h : Dq K H v d) (k : sm t m b d) (ht : t ≤ 5) (hm : m ≤ 62) (hb : b ≤ 160000) (q : Q (.str d.shown) H') : rRepQ K [v] H' Q := by
  obtain ⟨k1, k2, k3⟩ := k
  obtain ⟨e1, e2⟩ := nc_ok ht d k1
  have l := PyData.shown_le_bulk 100 (by decide) d e1
  refine ⟨v, d, rfl, h.up s, e2, by omega, ?_, q⟩
  rw [sizeLine_eq]
  omega
theorem sm_tup {t m b : Nat} {ds : List PyData} (h : ∀ d ∈ ds, sm t m b d) (n : Nat) (hn : ds.length ≤ n) : sm t (m + 1) (n * (b + 1)) (.tuple ds) ∧ sm t (m + 1) (n * (b + 1)) (.list ds) := by
  have k1 : ncAll t ds = true := ncAll_mem.mpr fun d hd => (h d hd).1
  have k2 : PyData.depthAll ds ≤ m := by
    clear k1 hn
    induction ds with
    | nil => simp [PyData.depthAll]
    | cons d r ih =>
      have := ih fun x hx => h x (List.mem_cons_of_mem _ hx)
      have h1 := (h d List.mem_cons_self).2.1
      simp only [PyData.depthAll]
      omega
  have k3 : PyData.bulkAll ds ≤ ds.length * (b + 1) := by
    clear k1 k2 hn
    induction ds with
    | nil => simp [PyData.bulkAll]
    | cons d r ih =>
      have := ih fun x hx => h x (List.mem_cons_of_mem _ hx)
      have h1 := (h d List.mem_cons_self).2.2
      simp only [PyData.bulkAll, List.length_cons, Nat.add_mul]
      omega
  have k4 := Nat.le_trans k3 (Nat.mul_le_mul_right (b + 1) hn)
  refine ⟨⟨?_, ?_, ?_⟩, ?_, ?_, ?_⟩
  · rw [nc]; exact k1
  · rw [PyData.depth]; omega
  · rw [PyData.bulk]; exact k4
  · rw [nc]; exact k1
  · rw [PyData.depth]; omega
  · rw [PyData.bulk]; exact k4
/-! ### terms whose value is known, dicts among them -/
def MQ (K : PySem.W.Frag) (S : Addr → Prop) (σ : L2.St) (H0 : Hp) (te : TE) (d : PyData) : Prop := ∀ (H : Hp) (Q : VK), Same H0 H → (∀ H' v, Same H H' → Dq K (wo S H') v d → Q v H') → te σ H Q
def MQs (K : PySem.W.Frag) (S : Addr → Prop) (σ : L2.St) (H0 : Hp) (ta : TA) (ds : List PyData) : Prop := ∀ (H : Hp) (Q : List V → Hp → Prop), Same H0 H → (∀ H' vs, Same H H' → DqAll K (wo S H') vs ds → Q vs H') → ta σ H Q
section
variable {K : PySem.W.Frag} {S : Addr → Prop} {σ : L2.St} {H0 : Hp}
theorem MQ.non : MQ K S σ H0 (tC .non) .none := fun H Q _ q => q H _ (Same.refl H) .non
theorem MQ.bl (b : Bool) : MQ K S σ H0 (tC (.bl b)) (.bool b) := fun H Q _ q => q H _ (Same.refl H) (.bl b)
theorem MQ.int (i : Int) : MQ K S σ H0 (tC (.int i)) (.int i) := fun H Q _ q => q H _ (Same.refl H) (.int i)
theorem MQ.str (x : Str) : MQ K S σ H0 (tC (.str x)) (.str x) := fun H Q _ q => q H _ (Same.refl H) (.str x)
theorem MQ.v {i : Nat} {v : V} {d : PyData} (h : σ[i]? = some (some v)) (k : Dq K (wo S H0) v d) : MQ K S σ H0 (tVar i) d := fun H Q s q => ⟨v, h, q H v (Same.refl H) (k.up (wo_up s))⟩
theorem MQs.nil : MQs K S σ H0 tNil [] := fun H Q _ q => q H _ (Same.refl H) .nil
theorem MQs.cons {te : TE} {ta : TA} {d : PyData} {ds : List PyData} (h : MQ K S σ H0 te d) (t : MQs K S σ H0 ta ds) : MQs K S σ H0 (tCons te ta) (d :: ds) := fun H Q s q =>
  h H _ s fun H1 v s1 k1 => t H1 _ (s.trans s1) fun H2 vs s2 k2 => q H2 (v :: vs) (s1.trans s2) (.cons (k1.up (wo_up s2)) k2)
theorem wo_new {q : Addr} {H : Hp} {o : HO} (hp : Kp S H) (hq : H q = none) : wo S (upd H q o) q = some o := by
  rw [wo_ne (hp.new hq), upd_same]
theorem MQ.tup {ta : TA} {ds : List PyData} (hp : Kp S H0) (h : MQs K S σ H0 ta ds) (l : ds.length ≤ 1000) : MQ K S σ H0 (tTup ta) (.tuple ds) := fun H Q s q =>
  h H _ s fun H1 vs s1 k1 => ⟨Nat.le_trans (by rw [k1.len]; exact l) (by decide), fun a ha => q _ _ (s1.trans (sameN ha)) (.tup (.inl (.inl (wo_new ((hp.up s).up s1) ha))) (k1.up (wo_up (sameN ha))))⟩
theorem MQ.lst {ta : TA} {ds : List PyData} (hp : Kp S H0) (h : MQs K S σ H0 ta ds) (l : ds.length ≤ 1000) : MQ K S σ H0 (tLst ta) (.list ds) := fun H Q s q =>
  h H _ s fun H1 vs s1 k1 => ⟨Nat.le_trans (by rw [k1.len]; exact l) (by decide), fun a ha => q _ _ (s1.trans (sameN ha)) (.lst (.inl (.inl (wo_new ((hp.up s).up s1) ha))) (k1.up (wo_up (sameN ha))))⟩
theorem MQ.dct0 (hp : Kp S H0) : MQ K S σ H0 tDNewK (.dict []) := fun H Q s q => fun a ha => q _ _ (sameN ha) (.dct (wo_new (hp.up s) ha) .nil)
theorem MQ.dct1 {x : Str} {i : Nat} {v : V} {d : PyData} (hp : Kp S H0) (h : σ[i]? = some (some v)) (k : Dq K (wo S H0) v d) : MQ K S σ H0 (tDisp [(tC (.str x), tVar i)]) (.dict [(.str x, d)]) := fun H Q s q => fun a ha => by
  have hs : Same H (upd (upd H a (.dK [])) a (.dK [(.inr x, v)])) := fun b o e => by
    have hb : b ≠ a := fun z => by rw [z, ha] at e; cases e
    rw [upd_ne hb, upd_ne hb]
    exact e
  refine ⟨v, h, upd_same, [(.inr x, v)], rfl, (show 1 ≤ 15 by decide), ?_⟩
  refine q _ _ hs (.dct ?_ (.cons (k := .inr x) (k.up (wo_up (s.trans hs))) .nil))
  rw [wo_ne ((hp.up s).new ha), upd_same]
  rfl
end
end Loc
namespace Loc
open PySem PySem.Spec PyProof.Rows L2
section
variable {K : PySem.W.Frag} {S : Addr → Prop} {σ : L2.St} {H0 : Hp}
theorem MQ.ofInt {te : TE} {i : Int} (h : ∀ (H : Hp) (Q : VK), Q (.int i) H → te σ H Q) : MQ K S σ H0 te (.int i) := fun H Q _ q => h H _ (q H _ (Same.refl H) (.int i))
/-- a list that is made of such terms -/
theorem lst_new {ta : TA} {ds : List PyData} {H : Hp} {Q : VK} (hp : Kp S H) (h : MQs K S σ H ta ds) (l : ds.length ≤ 1000)
    (q : ∀ H' a vs, Same H H' → H a = none → H' a = some (.lst vs) → DqAll K (wo S H') vs ds → ¬ S a → Q (.ref a) H') : tLst ta σ H Q :=
  h H _ (Same.refl H) fun H1 vs s1 k1 => ⟨Nat.le_trans (by rw [k1.len]; exact l) (by decide), fun a ha => q _ a vs (s1.trans (sameN ha)) (by
    cases e : H a with
    | none => rfl
    | some o => rw [s1 _ _ e] at ha; cases ha) upd_same (k1.up (wo_up (sameN ha))) ((hp.up s1).new ha)⟩
end
end Loc
namespace Loc
open PySem PySem.Spec PyProof.Rows L2
theorem seq_asg {te : TE} {g : TG} {t : TS} {D : Ends} {σ : L2.St} {H : Hp} (h : te σ H fun v H1 => g v σ H1 fun σ' H' => t D σ' H') : tSeq (tAsg te g) t D σ H := h
end Loc
namespace Loc
open PySem PySem.Spec PyProof.Rows L2
/-- isinstance(x, t) and .. -/
theorem and_isi {K : PySem.W.Frag} {i : Nat} {t : String} {u : TT} {σ : L2.St} {H H0 : Hp} {v : V} {d : PyData} {b : Bool} {Q : Bool → Hp → Prop} (h : σ[i]? = some (some v)) (s : Same H0 H) (k : Dq K H0 v d) (e : kitB (tyD d) t = some b) (yes : b = true → u σ H Q) (no : b = false → Q false H) :
    tAnd (tB (tCB (rIsi K) (tCons (tVar i) (tCons (tC (.ty t)) tNil)))) u σ H Q := by
  refine ⟨v, h, ?_⟩
  refine isi_any (b := b) (Q := fun x H1 => ∃ c, x = V.bl c ∧ if c = true then u σ H1 Q else Q false H1) s k e ⟨b, rfl, ?_⟩
  cases b with
  | true =>
    rw [if_pos rfl]
    exact yes rfl
  | false =>
    rw [if_neg Bool.false_ne_true]
    exact no rfl
end Loc
namespace Loc
open PySem PySem.Spec PyProof.Rows L2
theorem nx_of {f : L2.St → Hp → Prop} {rt : VK} {bk ct : L2.St → Hp → Prop} {σ : L2.St} {H : Hp} (h : f σ H) : (Ends.mk f rt bk ct).nx σ H := h
end Loc

set_option Elab.async false
set_option linter.all false
set_option maxRecDepth 100000
namespace Loc
open PySem PySem.Spec PyProof.Rows L2
theorem andV_isi {K : PySem.W.Frag} {i : Nat} {t : String} {tb : TE} {σ : L2.St} {H H0 : Hp} {v : V} {d : PyData} {b : Bool} {Q : VK} (h : σ[i]? = some (some v)) (s : Same H0 H) (k : Dq K H0 v d) (e : kitB (tyD d) t = some b) (yes : b = true → tb σ H Q) (no : b = false → Q (.bl false) H) :
    tAndV (tCB (rIsi K) (tCons (tVar i) (tCons (tC (.ty t)) tNil))) tb σ H Q := by
  refine ⟨v, h, ?_⟩
  refine isi_any (b := b) (Q := fun x H1 => ∃ c, x = V.bl c ∧ if c = true then tb σ H1 Q else Q (.bl false) H1) s k e ⟨b, rfl, ?_⟩
  cases b with
  | true =>
    rw [if_pos rfl]
    exact yes rfl
  | false =>
    rw [if_neg Bool.false_ne_true]
    exact no rfl
theorem notV_isi {K : PySem.W.Frag} {i : Nat} {t : String} {σ : L2.St} {H H0 : Hp} {v : V} {d : PyData} {b : Bool} {Q : VK} (h : σ[i]? = some (some v)) (s : Same H0 H) (k : Dq K H0 v d) (e : kitB (tyD d) t = some b) (q : Q (.bl (!b)) H) :
    tNotV (tCB (rIsi K) (tCons (tVar i) (tCons (tC (.ty t)) tNil))) σ H Q := by
  refine ⟨v, h, ?_⟩
  exact isi_any (b := b) (Q := fun x H1 => ∃ c, x = V.bl c ∧ Q (.bl (!c)) H1) s k e ⟨b, rfl, q⟩
theorem or_nisi {K : PySem.W.Frag} {i : Nat} {t : String} {u : TT} {σ : L2.St} {H H0 : Hp} {v : V} {d : PyData} {b : Bool} {Q : Bool → Hp → Prop} (h : σ[i]? = some (some v)) (s : Same H0 H) (k : Dq K H0 v d) (e : kitB (tyD d) t = some b) (no : b = true → u σ H Q) (yes : b = false → Q true H) :
    tOr (tNot (tB (tCB (rIsi K) (tCons (tVar i) (tCons (tC (.ty t)) tNil))))) u σ H Q := by
  refine ⟨v, h, ?_⟩
  refine isi_any (b := b) (Q := fun x H1 => ∃ c, x = V.bl c ∧ if (!c) = true then Q true H1 else u σ H1 Q) s k e ⟨b, rfl, ?_⟩
  cases b with
  | true => exact iteF (no rfl)
  | false => exact iteT (yes rfl)
/-- what whole numbers are, of any value -/
def whD : PyData → Bool
  | .int _ => true | _ => false
def elD : PyData → Bool
  | .int i => decide (0 ≤ i) && decide (i ≤ 10 ^ 9) | _ => false
def cntD (l : Int) : PyData → Bool
  | .int i => decide (l ≤ i) && decide (i ≤ 10 ^ 60) | _ => false
def pairQ : PyData → Bool
  | .tuple [a, b] => elD a && cntD 1 b | _ => false
def fstD : PyData → Int
  | .tuple (.int a :: _) => a | _ => 0
/-- runs of at most 300 pairs -/
def RunsP (ds : List PyData) : Prop := ds.length ≤ 300 ∧ (∀ d ∈ ds, pairQ d = true) ∧ ∀ i x y, ds[i]? = some x → ds[i + 1]? = some y → fstD x ≠ fstD y
open Classical in
noncomputable def runsD : PyData → Bool
  | .tuple ds => decide (RunsP ds) | _ => false
theorem runsD_yes {ds : List PyData} (h : RunsP ds) : runsD (.tuple ds) = true := @decide_eq_true _ (Classical.propDecidable _) h
theorem runsD_no {ds : List PyData} (h : ¬ RunsP ds) : runsD (.tuple ds) = false := @decide_eq_false _ (Classical.propDecidable _) h
theorem pairQ_inv {d : PyData} (h : pairQ d = true) : ∃ a b : Int, d = .tuple [.int a, .int b] ∧ 0 ≤ a ∧ a ≤ 10 ^ 9 ∧ 1 ≤ b ∧ b ≤ 10 ^ 60 := by
  cases d with
  | tuple ds =>
    match ds, h with
    | [x, y], h =>
      simp only [pairQ, Bool.and_eq_true] at h
      obtain ⟨h1, h2⟩ := h
      cases x with
      | int a =>
        cases y with
        | int b =>
          simp only [elD, cntD, Bool.and_eq_true, decide_eq_true_eq] at h1 h2
          exact ⟨a, b, rfl, h1.1, h1.2, h2.1, h2.2⟩
        | _ => simp [cntD] at h2
      | _ => simp [elD] at h1
  | _ => simp [pairQ] at h
end Loc

set_option Elab.async false
set_option linter.all false
set_option maxRecDepth 100000
set_option maxHeartbeats 2000000
/-! ### an error that was caught, kept as a value -/
namespace Loc
open PySem PySem.Spec PyProof.Rows L2
/-- an error of the class at C, its dict at d -/
def ErrO (C d a : Addr) : HO := .ext fun h => ∃ (oe : Obj) (vs : Array Value), h.get? a = some oe ∧ Zc (.ref C) (some d) oe ∧ oe.data = .fields vs
theorem errO_ok {P : Program} {w : World} {H : Hp} {h : Heap} {C d a : Addr} {oe : Obj} {vs : Array Value} (e : h.get? a = some oe) (z : Zc (.ref C) (some d) oe) (q : oe.data = .fields vs) : ObjOk P w H h a (ErrO C d a) :=
  ⟨⟨oe, vs, e, z, q⟩, ⟨oe, e⟩, fun _ _ ⟨o, v, r1, r2⟩ k => ⟨o, v, k o r1, r2⟩⟩
section
variable {X : Cx} {pins : List (Addr × Obj)} {σ : L2.St} {H : Hp} {s : Shared}
/-- an object that stands there already is looked at from now on -/
theorem Inv.track {a : Addr} {φ : Heap → Prop} (I : Inv X pins σ H s) (na : H a = none) (nL : a ≠ X.env.locals) (n0 : X.s_0.heap.get? a = none) (nP : ∀ p ∈ X.pn ++ pins, p.1 ≠ a) (nC : ∀ x c, X.env.cells.lookup x = some c → c ≠ a)
    (new : ObjOk X.prog X.w (upd H a (.ext φ)) s.heap a (.ext φ)) : Inv X pins σ (upd H a (.ext φ)) s := by
  have far : ∀ {b : Addr} {u : HO}, H b = some u → b ≠ a := fun e z => by
    rw [z, na] at e
    cases e
  have same : ∀ {b : Addr}, b ≠ a → upd H a (.ext φ) b = H b := fun h => upd_ne h
  refine { ok := I.ok, os := I.os, bare := I.bare, base := ?_, loc := I.loc, cell := I.cell, free := ?_, freeC := ?_, pin := ?_, hok := ?_, len := I.len }
  · refine { keep := I.base.keep, slot := I.base.slot, free := ?_, there := I.base.there, tups := ?_, frzs := ?_, tbls := ?_ }
    · intro b o e h1 h2
      have hb : b ≠ a := fun z => by
        rw [z, n0] at e
        cases e
      rw [same hb]
      exact I.base.free b o e h1 h2
    · intro b xs e
      have k := I.base.tups b xs e
      rw [same (far k)]
      exact k
    · intro b o u e
      have k := I.base.frzs b o u e
      rw [same (far k)]
      exact k
    · intro b ps e
      obtain ⟨more, k⟩ := I.base.tbls b ps e
      exact ⟨more, (same (far k)).trans k⟩
  · exact (same nL.symm).trans I.free
  · intro x c e
    exact (same (nC x c e)).trans (I.freeC x c e)
  · intro p hp
    obtain ⟨e1, e2, e3⟩ := I.pin p hp
    exact ⟨e1, (same (nP p hp)).trans e2, e3⟩
  · intro b u e
    by_cases hb : b = a
    · subst hb
      rw [upd_same] at e
      cases e
      exact new
    · rw [same hb] at e
      exact (I.hok b u e).stay (fun c v _ r => r) (fun c r => (same (far r)).trans r) (fun c xs r => (same (far r)).trans r)
end
/-- what is wished of the body's error by 'except x as n: m = n' -/
def wKeep (K : PySem.W.Frag) (c : Value) (i j : Nat) (Wout : WX) (D : Ends) : WX := fun cls d σ H =>
  ∃ b, PySem.W.exmOne K cls c = some b ∧ (b = true → ∃ C dd, cls = .ref C ∧ d = some dd ∧ ∀ a, H a = none → D.nx (((σ.set i (some (.ref a))).set j (some (.ref a))).set i none) (upd H a (ErrO C dd a))) ∧ (b = false → Wout cls d σ H)
section
variable {X : Cx} {x n m : Str} {c : Value} {i j : Nat} {body : List Stmt} {np pos pos' q1 q2 q3 : Pos} {tb : WX → TS} {Wout : WX}
theorem ps_try_keep (hs : X.stack = X.env :: X.outer) (hf : X.env.frame = some X.env.locals) (hN : X.N.Nodup) (hi : X.N[i]? = some n) (hln : X.env.kindOf n = some .local) (hj : X.N[j]? = some m) (hlm : X.env.kindOf m = some .local) (hij : i < X.N.length) (hne : i ≠ j)
    (hex : X.ex = []) (hc : Names X x c) (tk : Takes X Wout) (hdn : (n == ("__debug__" : Str)) = false := by decide) (hcn : (n == ("__classdict__" : Str)) = false := by decide) 
    (hb : ∀ (W : WX) (pn : List (Addr × Obj)) (xe : Value → Shared → Prop), Takes (X.tr pn xe) W → PassesOwn (model X.prog X.w) X.A X.env xe → PSs (X.tr pn xe) body (tb W)) :
    PS X (.Try body [.ExceptHandler (some (.Name x np)) (some n) [.Assign [.Name m q1] (.Name n q2) q3] pos'] [] [] pos) (fun D σ H => tb (wKeep X.K c i j Wout D) D σ H) := by
  constructor
  intro pins s σ H D I h
  have ok := I.ok
  have frs1 : X.A.frames = some (X.env :: X.outer) := ok.frames.trans (congrArg some hs)
  refine wpAny_Try_except ?_
  let after : Value → Shared → Prop := fun e s1 => wpAny (model X.prog X.w) X.A (noteFrame e X.env) (fun _ s2 => wpAny (model X.prog X.w) X.A (setFlight e none) (fun _ s3 =>
      wpAny (model X.prog X.w) X.A (handleBy e X.env [.ExceptHandler (some (.Name x np)) (some n) [.Assign [.Name m q1] (.Name n q2) q3] pos']) (SP X pins D) X.xe s3) X.xe s2) X.xe s1
  have run := (hb (wKeep X.K c i j Wout D) (X.pn ++ pins) after (fun u s' air => ?_) PassesOwn.looking).run [] s σ H D (I.toTry _) h
  · refine wpAny_mono run (fun f s1 hsp => ?_) (fun e s1 he => he)
    cases f with
    | next =>
      obtain ⟨σ1, H1, J, k⟩ := hsp
      exact wpAny_execs_nil ⟨σ1, H1, J.ofTry ok, k⟩
    | ret u =>
      obtain ⟨v, σ1, H1, J, r, k⟩ := hsp
      exact ⟨v, σ1, H1, J.ofTry ok, r, k⟩
    | brk =>
      obtain ⟨σ1, H1, J, k⟩ := hsp
      exact ⟨σ1, H1, J.ofTry ok, k⟩
    | cont =>
      obtain ⟨σ1, H1, J, k⟩ := hsp
      exact ⟨σ1, H1, J.ofTry ok, k⟩
  · obtain ⟨a, B, sI, pins1, σ1, H1, cls, d, rfl, J0, ground, up, sky, na, os, ag, b, hb1, hyes, hno⟩ := air
    have J : Inv X pins σ1 H1 sI := J0.ofTry ok
    show after (.ref a) s'
    show wpAny (model X.prog X.w) X.A (noteFrame (.ref a) X.env) _ _ _
    have sky1 : Sky B (X.env :: X.outer) a (Zc cls d) X.env.locals s'.heap := hs ▸ sky
    have noB : B.get? a = none := by
      rcases sky1 with z | z | z
      · exact z.2.1
      · exact z.2.1
      · exact z.2.1
    refine Sky.land Zc.steady frs1 hf sky1 fun h3 fly up3 => ?_
    have J3 : Inv X pins σ1 H1 { s' with heap := h3 } := J.landed ground fly.1 (up.trans up3) os ag
    obtain ⟨oe3, vs3, he3, hz3, hd3⟩ := fly.there
    have noFr : a ∉ frs (X.env :: X.outer) := fun hm => by
      obtain ⟨_, o', e', hnf⟩ := fly.2.2.1.mem hm
      rw [he3] at e'
      cases e'
      exact hnf _ hd3
    have noL : a ≠ X.env.locals := fun z => noFr (List.mem_filterMap.mpr ⟨X.env, List.mem_cons_self, by rw [hf, z]⟩)
    have noF : a ∉ X.fs := fun hm => by
      obtain ⟨e, he, k⟩ := List.mem_filterMap.mp hm
      exact noFr (List.mem_filterMap.mpr ⟨e, List.mem_cons_of_mem _ he, k⟩)
    have noI : sI.heap.get? a = none := by
      cases e : sI.heap.get? a with
      | none => rfl
      | some o =>
        have := ground a o e (by rw [hs]; exact noFr)
        rw [noB] at this
        cases this
    have no0 : X.s_0.heap.get? a = none := by
      cases e : X.s_0.heap.get? a with
      | none => rfl
      | some o =>
        obtain ⟨o', e'⟩ := J.base.there a o e (by rw [hex]; exact fun z => nomatch z)
        rw [noI] at e'
        cases e'
    have noP : ∀ p ∈ X.pn ++ pins, p.1 ≠ a := fun p hp z => by
      have e := (J.pin p hp).1
      rw [z, noI] at e
      cases e
    have noC : ∀ y k, X.env.cells.lookup y = some k → k ≠ a := fun y k e z => by
      obtain ⟨v, o, ho, _⟩ := J.cell y k e
      rw [z, noI] at ho
      cases ho
    have S3 := J3.suite he3 hd3 na noL noF
    refine wpAny_handleBy_cons (codeAny_handlers_test ?_) (by intro z; cases z)
    have look := PySem.W.exm_one (M := model X.prog X.w) J3.kIn (fun A Q E s k z => wpAny_typeOf_ref (k _ _ he3) (by rw [hz3.1]; exact z)) hb1
    have named : ∀ {Q : Value → Shared → Prop} {E : Value → Shared → Prop}, Q c { s' with heap := h3 } → wpAny (model X.prog X.w) (X.A.mark (some (.ref a))) (eval (.Name x np) X.env) Q E { s' with heap := h3 } := fun {Q E} z => by
      obtain ⟨g1, g2, g3 | ⟨g3, g4, g5⟩⟩ := hc
      · exact ld_glob (X := X.suite a ((a, oe3) :: (X.pn ++ pins))) S3 g1 g3 z g2
      · exact ld_blt (X := X.suite a ((a, oe3) :: (X.pn ++ pins))) S3 g1 g3 g4 z g5 g2
    refine named (look.here ?_)
    cases b with
    | false =>
      show wpAny _ X.A (handleBy (.ref a) X.env []) _ _ _
      refine wpAny_handleBy_nil ?_
      obtain ⟨_, _, _, oe, vs, T, oT, ts', f1, f2, f3, f4, f5⟩ := id fly
      unfold PySem.passOn
      refine wpAny_bind (wpAny_field f1 f3 f4 ?_)
      have nz : ¬ ((Value.ref T == Value.none) = true) := by simp
      rw [if_neg nz]
      have out : wpAny (model X.prog X.w) X.A (setFlight (.ref a) X.env.frame) (fun _ s4 => wpAny (model X.prog X.w) X.A (throw (.ref a) : Sem Flow) (SP X pins D) X.xe s4) X.xe { s' with heap := h3 } := by
        rw [hf]
        refine HandSPX.setFlight_upZ fly fun h4 held up4 => wpAny_throw (tk _ _ ?_)
        refine ⟨a, B, sI, pins, σ1, H1, cls, d, rfl, J, ground, (up.trans up3).trans up4, .inr (.inr ?_), na, os, ag, hno rfl⟩
        rw [hs]
        exact held
      first
        | exact wpAny_bind (wpAny_pure (wpAny_bind out))
        | exact wpAny_bind out
    | true =>
      obtain ⟨C, dd, rfl, rfl, fin⟩ := hyes rfl
      refine codeAny_handlers_suite_as ?_
      refine HandSPX.lands_againZ fly fun h4 fly4 up4 => ?_
      have J4 : Inv X pins σ1 H1 { s' with heap := h4 } := J.landed ground fly4.1 ((up.trans up3).trans up4) os ag
      obtain ⟨oe4, vs4, he4, hz4, hd4⟩ := fly4.there
      have S4 := J4.suite he4 hd4 na noL noF
      refine store_ok (X := X.suite a ((a, oe4) :: (X.pn ++ pins))) (v := .ref a) S4 hN hi (.inl hln) rfl (fun s5 S5 => ?_) (.inr hln)
      have put : PSs (X.suite a ((a, oe4) :: (X.pn ++ pins))) [.Assign [.Name m q1] (.Name n q2) q3] _ := pss_one (ps_set (i := j) hN hj (.inl hlm) (pe_var (i := i) hi (.inl hln) hdn hcn) (hf := .inr hlm))
      have ht : (σ1.set i (some (V.ref a)))[i]? = some (some (V.ref a)) := by
        rw [List.getElem?_set_self]
        rw [J4.len]
        exact hij
      refine wpAny_mono (put.run [] s5 _ H1 { nx := fun σ' H' => σ' = (σ1.set i (some (.ref a))).set j (some (.ref a)) ∧ H' = H1, rt := fun _ _ => False } S5 ⟨.ref a, ht, rfl, rfl⟩) (fun f s6 hsp => ?_) (fun _ _ z => False.elim z)
      cases f with
      | next =>
        obtain ⟨σ6, H6, S6, rfl, rfl⟩ := hsp
        have e6 := (S6.pin (a, oe4) (List.mem_append_left _ List.mem_cons_self)).1
        have T6 : Inv X pins ((σ1.set i (some (.ref a))).set j (some (.ref a))) (upd H6 a (ErrO C dd a)) s6 := Inv.track (S6.unsuite ok) na noL no0 noP noC (errO_ok e6 hz4 hd4)
        exact gone_ok T6 hN hi hln fun s7 J7 => ⟨_, _, J7, fin a na⟩
      | brk =>
        obtain ⟨_, _, _, z⟩ := hsp
        exact False.elim z
      | cont =>
        obtain ⟨_, _, _, z⟩ := hsp
        exact False.elim z
      | ret u =>
        obtain ⟨_, _, _, _, _, z⟩ := hsp
        exact False.elim z
end
end Loc

set_option Elab.async false
set_option linter.all false
set_option maxRecDepth 100000
set_option maxHeartbeats 2000000
/-! ### what is asked of such an error -/
namespace Loc
open PySem PySem.Spec PyProof.Rows L2
/-- what the class at C must say -/
structure ErrC (K : PySem.W.Frag) (C : Addr) : Prop where
  ga : PySem.W.findIn K (.ref C) "__getattribute__" = some (some (.builtin "BaseException.__getattribute__"))
  gg : PySem.W.findIn K (.ref C) "__getattr__" = some none
  sub : PySem.W.subIn K (.ref C) (.type "BaseException") = some true
  hd : PySem.W.hasDictIn K C = true
  at_ : PySem.W.findIn K (.ref C) "__class__" = some (some (.builtin "object.__class__"))
  get : PySem.W.specialIn K (.builtin "object.__class__") "__get__" = some (some (.builtin "getset_descriptor.__get__"))
  tak : PySem.W.takesIn K (.builtin "object.__class__") = some true
  mro : PySem.W.mroIn K C (.type "object") = some true
theorem ErrC.cl {K : PySem.W.Frag} {C : Addr} (h : ErrC K C) : (PySem.W.clsIn K C).isSome = true := by
  obtain ⟨cd, e, _⟩ := PySem.W.any_some h.hd
  rw [e]
  rfl
/-- such an error stands at a: its class, its attributes -/
def Err (H : Hp) (a C : Addr) (fs : List (Str × V)) : Prop := ∃ d, H a = some (ErrO C d a) ∧ H d = some (.xd fs)
theorem Err.same {H H' : Hp} {a C : Addr} {fs : List (Str × V)} (h : Err H a C fs) (s : Same H H') : Err H' a C fs := let ⟨d, e1, e2⟩ := h; ⟨d, s _ _ e1, s _ _ e2⟩
section
variable {X : Cx} {pins : List (Addr × Obj)} {σ : L2.St} {H : Hp} {s : Shared} {a C : Addr} {fs : List (Str × V)}
theorem Err.inst (I : Inv X pins σ H s) (h : Err H a C fs) : ∃ oe od, PySem.W.InstAt s.heap a oe C (some od) ∧ ∀ n v, fs.lookup n = some v → ∃ u, PySem.W.lookIn n od = some (some u) ∧ RelV v u := by
  obtain ⟨d, e1, e2⟩ := h
  have k1 : ObjOk X.prog X.w H s.heap a (ErrO C d a) := I.hok a _ e1
  obtain ⟨⟨oe, vs, g1, g2, g3⟩, _, _⟩ := k1
  have k2 : ObjOk X.prog X.w H s.heap d (.xd fs) := I.hok d _ e2
  obtain ⟨mA, ns, rel⟩ := k2
  obtain ⟨od, ho, hl⟩ := lookIn_ns ns
  refine ⟨oe, od, ⟨g1, g2.1, ?_, ?_⟩, fun n v e => ?_⟩
  · unfold PySem.W.notCls
    rw [g3]
  · rw [g2.2]
    exact ho
  · obtain ⟨u, hu, ru⟩ := RelO.some_of (v := v) (o := mA n) (by rw [← e]; exact rel n)
    exact ⟨u, by rw [hl, hu], ru⟩
/-- isinstance(e, c) -/
def rIsV (K : PySem.W.Frag) : List V → Hp → VK → Prop := fun xs H Q => ∃ (a C : Addr) (fs : List (Str × V)) (c : V) (cv : Value) (b : Bool), xs = [.ref a, c] ∧ Err H a C fs ∧ ErrC K C ∧ ClsV c cv ∧ PySem.W.kitOne K (.ref C) cv = some b ∧ Q (.bl b) H
theorem call_isV : CallR X (.builtin "isinstance") (rIsV X.K) := by
  intro pins s σ H xs us Q I r h
  obtain ⟨a, C, fs, c, cv, b, rfl, he, k, hc, e, q⟩ := h
  obtain ⟨u1, u2, rfl, r1, r2⟩ := vals2 r
  have e2 := hc.eq r2
  subst e2
  cases (show u1 = Value.ref a from r1)
  obtain ⟨oe, od, J, _⟩ := he.inst I
  exact PySem.W.kia_one (PySem.W.kitx_exc k.cl k.ga k.gg k.sub k.at_ k.get k.tak k.mro) I.kIn J e (fun z => nomatch z) fun tk => ⟨.bl b, H, I.tok tk, rfl, q⟩
/-- isinstance(e, (c1, c2, ..)) -/
def rIsVT (K : PySem.W.Frag) : List V → Hp → VK → Prop := fun xs H Q => ∃ (a C tp : Addr) (fs : List (Str × V)) (cs : List V) (cvs : List Value) (b : Bool), xs = [.ref a, .ref tp] ∧ Err H a C fs ∧ ErrC K C ∧ H tp = some (.tup cs) ∧ Paired ClsV cs cvs ∧ PySem.W.kitAny K (.ref C) cvs = some b ∧ Q (.bl b) H
theorem call_isVT : CallR X (.builtin "isinstance") (rIsVT X.K) := by
  intro pins s σ H xs us Q I r h
  obtain ⟨a, C, tp, fs, cs, cvs, b, rfl, he, k, hT, hc, e, q⟩ := h
  obtain ⟨u1, u2, rfl, r1, r2⟩ := vals2 r
  cases (show u1 = Value.ref a from r1)
  cases (show u2 = Value.ref tp from r2)
  obtain ⟨oe, od, J, _⟩ := he.inst I
  have kT : ObjOk X.prog X.w H s.heap tp (.tup cs) := I.hok tp _ hT
  obtain ⟨_, its, rv, o, h1, h2, n, h3⟩ := kT
  have e3 := ClsV.all hc rv
  subst e3
  obtain ⟨oc, od', dt, sl⟩ := o
  simp only at h2 h3
  subst h2 h3
  exact PySem.W.kia_tup (PySem.W.kitx_exc k.cl k.ga k.gg k.sub k.at_ k.get k.tak k.mro) I.kIn J h1 e (fun z => nomatch z) fun tk => ⟨.bl b, H, I.tok tk, rfl, q⟩
/-- e.f -/
def tErrF (K : PySem.W.Frag) (f : Str) (te : TE) : TE := fun σ H Q => te σ H fun x H1 => ∃ (a C : Addr) (fs : List (Str × V)) (v : V), x = .ref a ∧ Err H1 a C fs ∧ ErrC K C ∧ PySem.W.findIn K (.ref C) f = some none ∧ fs.lookup f = some v ∧ Q v H1
theorem pe_errf {e : Expr} {te : TE} {pos : Pos} {n : Str} (he : PE X e te) (hb : attributeBase e n X.env (eval e X.env) = eval e X.env := by rfl) : PE X (.Attribute e n pos) (tErrF X.K n te) := by
  constructor
  intro pins s σ H Q I h
  refine attr_of hb (thn (he.run pins s σ H _ I h) fun u s1 hu => ?_)
  obtain ⟨x, H1, I1, rx, a, C, fs, v, rfl, hE, k, hno, hl, q⟩ := hu
  cases (show u = Value.ref a from rx)
  obtain ⟨oe, od, J, look⟩ := hE.inst I1
  obtain ⟨u, hu, ru⟩ := look n v hl
  exact HandSPX.exc_get I1.kIn J k.ga k.gg k.sub (PySem.W.findObj_own k.hd hno rfl hu) (handed_of ru) ⟨v, H1, I1.tok _, ru, q⟩
end
end Loc

set_option Elab.async false
set_option linter.all false
set_option maxRecDepth 100000
/-! ### the law's call where tables of code objects are written -/
namespace Loc
open PySem PySem.Spec PyProof.Rows L2 LamX
/-- what is known of the code objects and their tables before the call -/
structure TabsOk (K : PySem.W.Frag) (h : Heap) (cs : List (Addr × Addr)) : Prop where
  emp : ∀ p ∈ cs, h.get? p.2 = some { cls := .none, data := .fields #[] }
  out : ∀ p ∈ cs, K.lookup p.2 = none
  hd : ∀ p ∈ cs, PySem.W.CodeHd h p.1 p.2
theorem callGT {P : Program} {w : World} {K : PySem.W.Frag} {mg mb : Str → Option Value} {k : Nat} {fa a : Addr} {fd : FuncData} {x : Str} {sp : Sp} {s : Shared} {vs : List Value} {ns : List Int} {cs : List (Addr × Addr)}
    (KX : K.In s.heap) (g1 : s.heap.Ns mainGlobals mg) (g2 : s.heap.Ns builtinsNs mb) (g3 : ∀ x : Str, x ≠ "__name__" → mb x = bootBuiltins x) (lim : s.heap.NoLimit) (gs : s.gens = #[]) (T : TabsOk K s.heap cs)
    (bm : ∃ (bm : Addr) (ob : Obj), mg "__builtins__" = some (.ref bm) ∧ bm ≠ builtinsNs ∧ s.heap.get? bm = some ob ∧ ob.cls = .type "module" ∧ ob.dict = some builtinsNs ∧ ob.data = .plain)
    (ha : s.heap.get? a = some { cls := .type "list", data := .seq vs.toArray }) (hi : IntsAre vs ns) (hl : ns.length ≤ sizeLine) (hr : Room k callerA)
    (F : ∀ base : Heap, K.In base → base.Ns mainGlobals mg → (∀ p ∈ cs, TabB base mg p.1 p.2) → FnG P w K mg base CX0 k fa fd [x] sp) (hb : ∀ (s : Shared) (u : Value), BindsTo s fd ⟨[u], []⟩ [(x, u)])
    (hsp : ∀ H : Hp, SqL K H a (ns.map V.int) → (∀ p ∈ cs, H p.2 = some (.tbl #[])) → sp [.ref a] H (fun v _ => v = .bl true) fun _ _ _ => False) :
    codeAny (model P w) callerA (.call (.ref fa) ⟨[.ref a], []⟩) (fun r s' => r = .ok (.ret (.bool true)) ∧ OldK s.heap s'.heap ∧ s'.os = s.os ∧ AllBare s'.gens) s := by
  have rv := vals_ints hi
  have ln := hi.length
  have at_tab : ∀ {b : Addr} {o : Obj}, s.heap.get? b = some o → o.data ≠ .fields #[] → ∀ p ∈ cs, b ≠ p.2 := fun e nd p hp z => by
    rw [z, T.emp p hp] at e
    cases e
    exact nd rfl
  have a_tab : ∀ p ∈ cs, a ≠ p.2 := at_tab ha (fun z => by cases z)
  have main : ∀ H : Hp, (∀ b, H b = none ∨ (b = a ∧ K.lookup a = none ∧ ∃ o xs, H b = some (.frz o (.lst xs))) ∨ ∃ p ∈ cs, b = p.2 ∧ H b = some (.tbl #[])) → (∀ p ∈ cs, H p.2 = some (.tbl #[])) → SqL K H a (ns.map V.int) → HOk P w H s.heap →
      codeAny (model P w) callerA (.call (.ref fa) ⟨[.ref a], []⟩) (fun r s' => r = .ok (.ret (.bool true)) ∧ OldK s.heap s'.heap ∧ s'.os = s.os ∧ AllBare s'.gens) s := by
    intro H only tabs sq hok
    have seen : ∀ {b : Addr} {o : Obj}, s.heap.get? b = some o → (∀ vs n, o.data ≠ .seq vs n) → o.data ≠ .fields #[] → (hidT s.heap H).get? b = some o := fun {b o} e d1 d2 => hidT_get e (by
      rcases only b with z | ⟨rfl, _, _⟩ | ⟨p, hp, z, _⟩
      · exact z
      · rw [ha] at e
        cases e
        exact absurd rfl (d1 _ _)
      · exact absurd z (at_tab e d2 p hp))
    have nsOf : ∀ {b : Addr} {m : Str → Option Value}, s.heap.Ns b m → (hidT s.heap H).Ns b m := by
      rintro b m ⟨o, es, ep, e, d, r⟩
      refine ⟨o, es, ep, seen e (fun vs n z => ?_) (fun z => ?_), d, r⟩
      · rw [d] at z
        cases z
      · rw [d] at z
        cases z
    have kb : K.In (hidT s.heap H) := fun b o e => hidT_get (KX b o e) (by
      rcases only b with z | ⟨rfl, z, _⟩ | ⟨p, hp, z, _⟩
      · exact z
      · rw [z] at e
        cases e
      · rw [z, T.out p hp] at e
        cases e)
    have TB : ∀ p ∈ cs, TabB (hidT s.heap H) mg p.1 p.2 := fun p hp => by
      refine ⟨?_, ?_, fun z => ?_⟩
      · obtain ⟨o, us, file, tf, flags, tg, inF, text, tt, e1, r1, r2, r3, r⟩ := T.hd p hp
        refine ⟨o, us, file, tf, flags, tg, inF, text, tt, seen e1 (fun vs n z => ?_) (fun z => ?_), r1, r2, r3, r⟩
        · rw [r2] at z
          cases z
        · rw [r2] at z
          cases z
          simp at r3
      · obtain ⟨bm, ob, b1, b2, b3, b4, b5, b6⟩ := bm
        have hb3 : (hidT s.heap H).get? bm = some ob := seen b3 (fun vs n z => by rw [b6] at z; cases z) (fun z => by rw [b6] at z; cases z)
        refine ⟨bm, ob, b1, b2, fun z => ?_, fun z => ?_, hb3, b4, b5, b6⟩
        · obtain ⟨o, es, ep, e, d, _⟩ := g1
          rw [z, e] at b3
          cases b3
          rw [d] at b6
          cases b6
        · rw [z, T.emp p hp] at b3
          cases b3
          cases b6
      · obtain ⟨o, es, ep, e, d, _⟩ := g1
        rw [z, T.emp p hp] at e
        cases e
        cases d
    obtain ⟨mc, l1, l2⟩ := lim
    have e0 : Env0 P w K mg (hidT s.heap H) callerA [] s H :=
      { frames := rfl, mod := ⟨kb, nsOf g1, ⟨mb, nsOf g2, g3⟩, ⟨mc, nsOf l1, l2⟩⟩, bs := fun _ _ e => of_hidT e, bsz := Nat.le_of_eq (hidT_size _ _), funs := trivial,
        frf := fun b hb => absurd (show b ∈ ([] : List Addr) from hb) List.not_mem_nil, hok := hok, bare := .of_eq gs }
    refine codeAny_mono ((F _ kb (nsOf g1) TB).go (us := [.ref a]) (vs := [.ref a]) rfl hr e0 (hb s (.ref a)) (.cons rfl .nil) (hsp H sq tabs)) fun r s' h => ?_
    match r, h with
    | .error e, h => exact h.elim
    | .ok .next, h => exact h.elim
    | .ok .brk, h => exact h.elim
    | .ok .cont, h => exact h.elim
    | .ok (.ret u), ⟨v, H', os, bare, un, hok', rel, q⟩ =>
      have q' : v = .bl true := q
      subst q'
      have ru : u = Value.bool true := rel
      subst ru
      have grown : ∀ p ∈ cs, ∃ more : Array Value, s'.heap.get? p.2 = some { cls := .none, data := .fields more } := fun p hp => by
        obtain ⟨more, z⟩ := un.tbls p.2 #[] (tabs p hp)
        exact ⟨_, hok' p.2 _ z⟩
      have kept : ∀ b o, s.heap.get? b = some o → (∀ p ∈ cs, b ≠ p.2) → s'.heap.get? b = some o := fun b o e nt => by
        rcases only b with z | ⟨_, _, ob, xs, z⟩ | ⟨p, hp, z, _⟩
        · exact un.keep b o e z (fun m => absurd (show b ∈ ([] : List Addr) from m) List.not_mem_nil) List.not_mem_nil
        · have o1 := (hok b _ z).1
          have o2 := (hok' b _ (un.frzs b ob _ z)).1
          rw [e] at o1
          cases o1
          exact o2
        · exact absurd z (nt p hp)
      refine ⟨rfl, ⟨fun b o e => ?_, fun b o e => ?_⟩, os, bare⟩
      · by_cases hb : ∃ p ∈ cs, b = p.2
        · obtain ⟨p, hp, rfl⟩ := hb
          obtain ⟨more, hm⟩ := grown p hp
          have e1 := T.emp p hp
          rw [e1] at e
          cases e
          exact .inr (.inl ⟨((T.hd p hp).tab e1).isCodeTable, rfl, #[], more, rfl, by rw [Array.empty_append]; exact hm⟩)
        · exact .inl (kept b o e fun p hp z => hb ⟨p, hp, z⟩)
      · by_cases hb : ∃ p ∈ cs, b = p.2
        · obtain ⟨p, hp, rfl⟩ := hb
          obtain ⟨more, hm⟩ := grown p hp
          exact ⟨_, hm⟩
        · exact ⟨o, kept b o e fun p hp z => hb ⟨p, hp, z⟩⟩
  open Classical in
  let tabH : Hp := fun b => if ∃ p ∈ cs, b = p.2 then some (.tbl #[]) else none
  have tab1 : ∀ p ∈ cs, tabH p.2 = some (.tbl #[]) := fun p hp => if_pos ⟨p, hp, rfl⟩
  have tab0 : ∀ b, tabH b = none ∨ ∃ p ∈ cs, b = p.2 ∧ tabH b = some (.tbl #[]) := fun b => by
    by_cases e : ∃ p ∈ cs, b = p.2
    · obtain ⟨p, hp, z⟩ := e
      exact .inr ⟨p, hp, z, if_pos ⟨p, hp, z⟩⟩
    · exact .inl (if_neg e)
  have tabOk : ∀ b u, tabH b = some u → ObjOk P w tabH s.heap b u → True := fun _ _ _ _ => trivial
  cases hk : K.lookup a with
  | some o =>
    have e := KX a o hk
    rw [ha] at e
    cases e
    refine main tabH (fun b => (tab0 b).imp id .inr) tab1 (.inr ⟨_, vs.toArray, _, hk, rfl, rfl, rfl, ?_, by simpa using rv⟩) fun b u z => ?_
    · rw [List.size_toArray, ln]
      exact hl
    · rcases tab0 b with e | ⟨p, hp, e1, e2⟩
      · rw [e] at z
        cases z
      · rw [e2] at z
        cases z
        show s.heap.get? b = _
        rw [e1]
        exact T.emp p hp
  | none =>
    have na : tabH a = none := if_neg fun ⟨p, hp, z⟩ => a_tab p hp z
    refine main (upd tabH a (.frz { cls := .type "list", data := .seq vs.toArray } (.lst (ns.map V.int)))) (fun b => ?_) (fun p hp => by rw [upd_ne (a_tab p hp).symm]; exact tab1 p hp) (.inl (.inr ⟨_, upd_same⟩)) fun b u z => ?_
    · by_cases e : b = a
      · exact .inr (.inl ⟨e, hk, _, _, by rw [e]; exact upd_same⟩)
      · rw [upd_ne e]
        exact (tab0 b).imp id .inr
    · by_cases e : b = a
      · subst e
        rw [upd_same] at z
        cases z
        exact ⟨ha, by rw [List.length_map]; exact hl, vs, _, rv, ha⟩
      · rw [upd_ne e] at z
        rcases tab0 b with e0 | ⟨p, hp, e1, e2⟩
        · rw [e0] at z
          cases z
        · rw [e2] at z
          cases z
          show s.heap.get? b = _
          rw [e1]
          exact T.emp p hp
/-- the goal that k_head leaves, from such a promise of the law's def; the tables of the defs that are named -/
theorem walkGT {l : PySem.W.OpenLaw} {n k : Nat} {q : Program} {loose : List Str} {XP : (Str → Option Value) → Heap → Prop} {YP : World → Heap → Prop} {d : DefRec} {K : Params → PySem.W.Frag} {sp : PySem.W.Frag → List (Addr × Addr) → Sp} {x : Str} (names : List Str)
    (hn : l.most = some n) (hz : n ≤ sizeLine) (hd : d.params.defaults = []) (hr : Room k callerA) (hnm : ∀ y ∈ names, ((recsOf q).find? fun e => e.name == y).isSome = true) (hY : ∀ (w : World) (h : Heap), YP w h → (K w.params).In h)
    (F : ∀ (w : World) (mg : Str → Option Value) (fa : Addr) (h : Heap), (K w.params).In h → h.Ns mainGlobals mg → mg d.name = some (.ref fa) →
      ∃ (fd : FuncData) (cs : List (Addr × Addr)), (∀ p ∈ cs, (K w.params).lookup p.2 = none ∧ ∃ y ∈ names, PySem.W.tabIn (K w.params) y = some p) ∧ (∀ (s : Shared) (u : Value), BindsTo s fd ⟨[u], []⟩ [(x, u)]) ∧
        (∀ (H : Hp) (a : Addr) (ns : List Int), ns.length ≤ n → SqL (K w.params) H a (ns.map V.int) → (∀ p ∈ cs, H p.2 = some (.tbl #[])) → sp (K w.params) cs [.ref a] H (fun v _ => v = .bl true) fun _ _ _ => False) ∧
        ∀ base : Heap, (K w.params).In base → base.Ns mainGlobals mg → (∀ p ∈ cs, TabB base mg p.1 p.2) → FnG l.prog w (K w.params) mg base CX0 k fa fd [x] (sp (K w.params) cs)) :
    PySem.W.WalkO q loose XP YP l.row.toRowW d [] (fun f vs => PySem.call f vs) := by
  refine Att.attach_call hn hd fun w s0 s1 mg mb fa o pm cd doc a vs ns G Y ho hd' hcd hmg hobj hints hlen hg => ?_
  have KX := hY w _ Y
  obtain ⟨fd, cs, hc, hb, hsp, hF⟩ := F w mg fa _ KX G.T.g hmg
  have T : TabsOk (K w.params) s1.heap cs := by
    have key : ∀ p ∈ cs, PySem.W.CodeHd s1.heap p.1 p.2 ∧ s1.heap.get? p.2 = some { cls := .none, data := .fields #[] } := fun p hp => by
      obtain ⟨_, y, hy, ht⟩ := hc p hp
      obtain ⟨d', hd2⟩ := Option.isSome_iff_exists.mp (hnm y hy)
      exact PySem.W.tab_of G.T KX hd2 ht
    exact ⟨fun p hp => (key p hp).2, fun p hp => (hc p hp).1, fun p hp => (key p hp).1⟩
  exact callGT KX G.T.g G.T.b G.T.builtins G.T.nolimit hg T G.T.bmain hobj hints (Nat.le_trans hlen hz) hr hF hb fun H hS ht => hsp H a ns hlen hS ht
end Loc

set_option Elab.async false
set_option linter.all false
set_option maxRecDepth 100000
/-! ### what the end of a law finds of its classes and of its defs' tables -/
namespace Loc
open PySem PySem.Spec PyProof.Rows L2
variable {K : PySem.W.Frag}
theorem tab_mk {x : Str} {f c Pt : Addr} {oc oc2 : Value} {od od2 : Option Addr} {fd : FuncData} {sl sl2 : Array (Option Value)} {vs : Array Value} (a : PySem.W.nsIn K mainGlobals x = some (some (.ref f))) (l : K.lookup f = some ⟨oc, od, .func fd, sl⟩) (hc : fd.code = .ref c)
    (o : K.lookup c = some ⟨oc2, od2, .fields vs, sl2⟩) (v : vs[11]? = some (.ref Pt)) : PySem.W.tabIn K x = some (c, Pt) := by
  unfold PySem.W.tabIn
  rw [a]
  simp only
  rw [l]
  simp only
  rw [hc]
  simp only
  rw [o]
  simp only
  rw [v]
theorem kit_self {A : Addr} : PySem.W.kitOne K (.ref A) (.ref A) = some true := by
  unfold PySem.W.kitOne
  rw [if_pos (by simp)]
theorem kit_no {A B : Addr} {b : Bool} (n : (A == B) = false) (hd : PySem.W.hasDictIn K B = true) (ty : PySem.W.typeIn K (.ref B) = some (.type "type")) (s : PySem.W.subIn K (.ref A) (.ref B) = some b) : PySem.W.kitOne K (.ref A) (.ref B) = some b := by
  obtain ⟨cd, e, _⟩ := PySem.W.any_some hd
  have e1 : (Value.ref A == Value.ref B) = false := by
    have ne : A ≠ B := fun z => by rw [z, beq_self_eq_true] at n; exact Bool.noConfusion n
    exact beq_eq_false_iff_ne.mpr fun z => ne (Value.ref.inj z)
  unfold PySem.W.kitOne PySem.W.kitCls
  rw [e1, if_neg Bool.false_ne_true]
  simp only
  rw [e, ty]
  rw [if_pos (by rfl)]
  exact s
theorem kit_any2 {t a b : Value} (h1 : PySem.W.kitOne K t a = some false) (h2 : PySem.W.kitOne K t b = some false) : PySem.W.kitAny K t [a, b] = some false := by
  simp [PySem.W.kitAny, h1, h2]
end Loc

set_option Elab.async false
set_option linter.all false
set_option maxRecDepth 100000
set_option maxHeartbeats 2000000
/-! ### errors with one value, or two: made and raised -/
namespace Loc
open PySem PySem.Spec PyProof.Rows L2
/-- the first def of a class -/
def initOf (st : Stmt) : Stmt := match st with
  | .ClassDef _ _ _ b _ _ _ _ _ _ _ => b.getD 0 (.Pass ⟨0, 0, 0, 0⟩)
  | s => s
/-- what is known of an error class with one value -/
structure Cls1 (K : PySem.W.Frag) (mg : Str → Option Value) (x q f : Str) (st : Stmt) (C fI : Addr) (fd : FuncData) : Prop where
  g : mg x = some (.ref C)
  ox : OexC K C
  er : ErrC K C
  no : PySem.W.findIn K (.ref C) f = some none
  iC : PySem.W.findIn K (.ref C) "__init__" = some (some (.ref fI))
  tI : PySem.W.typeIn K (.ref fI) = some (.type "function")
  F : Fun K "__init__" q st fI fd
  b : Binds K fd ["self", f] []
def spInit1 (K : PySem.W.Frag) (C : Addr) (f : Str) : Sp := fun vs H Q _ => ∃ (a : Addr) (v : V), vs = [.ref a, v] ∧ OexC K C ∧ H a = some (exo a C none) ∧ PySem.W.findIn K (.ref C) f = some none ∧
  ∀ dx, H dx = none → dx ≠ a → Q .non (upd (upd H dx (exd dx [(f, v)])) a (exo a C (some dx)))
theorem mk_one {K : PySem.W.Frag} {C : Addr} {f : Str} {v : V} {H : Hp} {Q : XK} (ox : OexC K C) (no : PySem.W.findIn K (.ref C) f = some none) (q : ∀ d, H d = none → Q (.ref C) (some d) (upd H d (.xd [(f, v)]))) :
    [v].length ≤ 1000 ∧ ∀ a, H a = none → spInit1 K C f (.ref a :: ([v] ++ [])) (upd H a (exo a C none))
      (fun v' H2 => v' = .non ∧ ∃ (d : Addr) (fs : List (Str × V)), H2 a = some (exo a C (some d)) ∧ H2 d = some (exd d fs) ∧ H d = none ∧ Q (.ref C) (some d) (upd (L2.del H2 a) d (.xd fs))) (fun _ _ _ => False) := by
  refine ⟨(by show 1 ≤ 1000; decide), fun a na => ⟨a, v, rfl, ox, upd_same, no, fun dx n ne => ⟨rfl, dx, [(f, v)], upd_same, by rw [upd_ne ne, upd_same], by rw [upd_ne ne] at n; exact n, ?_⟩⟩⟩
  have n' : H dx = none := by rw [upd_ne ne] at n; exact n
  have e : upd (L2.del (upd (upd (upd H a (exo a C none)) dx (exd dx [(f, v)])) a (exo a C (some dx))) a) dx (.xd [(f, v)]) = upd H dx (.xd [(f, v)]) := by
    funext b
    by_cases h1 : b = dx
    · rw [h1, upd_same, upd_same]
    · rw [upd_ne h1, upd_ne h1]
      by_cases h2 : b = a
      · rw [h2, L2.del_same, na]
      · rw [L2.del_ne h2, upd_ne h2, upd_ne h1, upd_ne h2]
  rw [e]
  exact q dx n'
/-- .. with two values -/
structure Cls2 (K : PySem.W.Frag) (mg : Str → Option Value) (x q f g' : Str) (st : Stmt) (C fI : Addr) (fd : FuncData) : Prop where
  g : mg x = some (.ref C)
  ox : OexC K C
  er : ErrC K C
  no : PySem.W.findIn K (.ref C) f = some none
  no2 : PySem.W.findIn K (.ref C) g' = some none
  iC : PySem.W.findIn K (.ref C) "__init__" = some (some (.ref fI))
  tI : PySem.W.typeIn K (.ref fI) = some (.type "function")
  F : Fun K "__init__" q st fI fd
  b : Binds K fd ["self", f, g'] []
section
variable {X : Cx} {W : WX} {x f q : Str} {st : Stmt} {C fI : Addr} {fd : FuncData} {k : Nat} {e : Expr} {te : TE} {p pos pos2 : Pos}
/-- raise x(e) -/
theorem ps_raise1 (hc : X.calm = true) (tk : Takes X W) (T : Cls1 X.K X.mg x q f st C fI fd) (F1 : FnOk X.prog X.w X.K X.mg X.base CX0 k fI fd ["self", f] (spInit1 X.K C f)) (hr : Room (k + 1) X.A) (ha : PE X e te) (hg : Gl X x := by rfl)
    (hdb : (x == ("__debug__" : Str)) = false := by decide) (he : starEach (e :: []) X.env = (false, eval e X.env) :: starEach [] X.env := by rfl) (hpl : (backTo pos (starEach [] X.env)).any (·.1) = false := by rfl) :
    PS X (.Raise (some (.Call (.Name x p) [e] [] pos)) none pos2) (fun _ σ H => tMkO C (spInit1 X.K C f) [] (tCons te tNil) σ H fun cls d H' => W cls d σ H') :=
  ps_raise hc tk (pmk_oex T.ox T.iC T.tI F1 hr T.b .nil pass0 hg T.g (pa_cons ha pa_nil he) hdb he hpl)
end
end Loc

set_option Elab.async false
set_option linter.all false
set_option maxRecDepth 100000
namespace Loc
open PySem PySem.Spec PyProof.Rows L2 LamX
theorem takes_len {X : Cx} {W : WX} {n : Nat} (hn : X.N.length = n) (tk : Takes X W) : Takes X (fun cls d σ H => σ.length = n → W cls d σ H) := fun u s' ⟨a, B, sI, pins, σ, H, cls, d, e, I, nb, up, sky, na, os, ag, w⟩ =>
  tk u s' ⟨a, B, sI, pins, σ, H, cls, d, e, I, nb, up, sky, na, os, ag, w (I.len.trans hn)⟩
/-- all but p and the tables of code objects stays -/
def BT (p : Addr) (H H' : Hp) : Prop := ∀ b o, b ≠ p → H b = some o → (∀ ps, o ≠ .tbl ps) → H' b = some o
theorem BT.of {p : Addr} {H H' : Hp} (h : But p H H') : BT p H H' := fun b o n e _ => h b o n e
theorem BT.ext {p : Addr} {H H' : Hp} (h : ExtN H H') : BT p H H' := fun b o _ e t => h b o e t
theorem BT.trans {p : Addr} {H H1 H2 : Hp} (a : BT p H H1) (b : BT p H1 H2) : BT p H H2 := fun c o n e t => b c o n (a c o n e t) t
theorem BT.sql {p a : Addr} {K : PySem.W.Frag} {H H' : Hp} {xs : List V} (e : BT p H H') (n : a ≠ p) (h : SqL K H a xs) : SqL K H' a xs := by
  rcases h with (h | ⟨o, h⟩) | h
  · exact .inl (.inl (e _ _ n h (fun _ z => by cases z)))
  · exact .inl (.inr ⟨o, e _ _ n h (fun _ z => by cases z)⟩)
  · exact .inr h
theorem ext_sqt {K : PySem.W.Frag} {H H' : Hp} {a : Addr} {xs : List V} (e : ExtN H H') (h : SqT K H a xs) : SqT K H' a xs := by
  rcases h with (h | ⟨o, h⟩) | h
  · exact .inl (.inl (e _ _ h (fun _ z => by cases z)))
  · exact .inl (.inr ⟨o, e _ _ h (fun _ z => by cases z)⟩)
  · exact .inr h
theorem ext_tups {K : PySem.W.Frag} {H H' : Hp} (e : ExtN H H') : Tups K H H' := fun a xs h => ext_sqt e h
theorem ext_pot {H H' : Hp} (e : ExtN H H') {p : Addr} {c : Nat} (h : Pot H p c) : Pot H' p c := by
  obtain ⟨o, e1, a, b, z, rfl, r⟩ := h
  exact ⟨_, e _ _ e1 (fun _ q => by cases q), a, b, z, rfl, r⟩
theorem ext_same {H H' : Hp} (e : Same H H') : ExtN H H' := fun b o h _ => e b o h
theorem tabs_but {T : List (Addr × Str)} {p : Addr} {H H' : Hp} {c : Nat} (t : Tabs T H) (e : But p H H') (hp : Pot H p c) : Tabs T H' := fun x hx => by
  obtain ⟨ps, h1, h2, h3⟩ := t x hx
  obtain ⟨o, ho, own, mix, cnt, rfl, _⟩ := hp
  refine ⟨ps, e _ _ (fun z => by rw [z, ho] at h1; cases h1) h1, h2, fun pos cv hc => ?_⟩
  obtain ⟨k, e1, e2⟩ := h3 pos cv hc
  exact ⟨k, e1, e _ _ (fun z => by rw [z, ho] at e2; cases e2) e2⟩
theorem tabs_same {T : List (Addr × Str)} {H H' : Hp} (t : Tabs T H) (e : Same H H') : Tabs T H' := t.ext e
end Loc
namespace Loc
open PySem PySem.Spec PyProof.Rows L2 LamX
section
variable {P : Program} {w : World} {K : PySem.W.Frag} {mg : Str → Option Value} {base : Heap} {CX : CXT} {k : Nat} {f : Addr} {fd : FuncData} {ps : List Str} {sp : Sp}
/-- as fun_okG, the code object known -/
theorem fun_okGC {x qual : Str} {st : Stmt} {N : List Str} {c : Addr} (F : Fun K x qual st f fd) (code : fd.code = .ref c) (S : FnScope N ps (defScope st)) (len : ∀ vs H Q E, sp vs H Q E → vs.length = ps.length)
    (hb : ∀ (A : Around) (out : List Env) (s : Shared) (H : Hp) (vs : List V) (Q : VK) (E : XK), A.guards = some [] → Room k (A.deeper (envOfC qual (defScope st) s.heap.objs.size f (.ref c))) → sp vs H Q E →
      ∃ t, PSs (cxOf CX P w K mg base N qual (defScope st) f (.ref c) A out s H E).nox (defBody st) t ∧ t { nx := fun _ H' => Q .non H', rt := Q } (L2.start N vs) H) :
    FnG P w K mg base CX (k + 1) f fd ps sp := by
  obtain ⟨⟨oc, od, kV, doc, pm, an, cdv, ct, osl, e, lk, hcd⟩, kp⟩ := F
  have e1 : cdv = .ref c := by
    rw [e] at code
    exact code
  subst e1
  refine ⟨fun h => len _ _ _ _ h, fun {A out s H ar us vs Q E} hg hr e0 hbd r hsp => ?_⟩
  subst e
  refine run_ofS lk hcd S hr e0 hbd r (len _ _ _ _ hsp) fun hr' => ?_
  obtain ⟨t, ht, hq⟩ := hb A out s H vs Q E hg hr' hsp
  exact ⟨t, ht.nox, hq⟩
end
end Loc

set_option Elab.async false
set_option linter.all false
set_option maxRecDepth 100000
set_option maxHeartbeats 2000000
/-! ### range of great numbers, as a row of a comprehension or of a for -/
namespace Loc
open PySem PySem.Spec PyProof.Rows L2
theorem turn_long {P : Program} {w : World} {K : PySem.W.Frag} {tg : Expr} (it : Addr) (lo : Int) (n : Nat) : Turn P w K tg (Itr lo n) [it] it fun i h => IsLongIter h it (lo + (i : Int) * 1) ((n : Int) - (i : Int)) 1 where
  mem := List.mem_cons_self
  obj := fun i h st b hb => by
    rw [List.mem_singleton.mp hb]
    exact ⟨_, st, fun v z => by cases z⟩
  keep := fun i h h' st k => k it List.mem_cons_self _ st
  item := fun X hP hw hK hc i pins s σ H E I hf st hg => by
    subst hP hw
    obtain ⟨f0, f1, f2, f3, f4, f5⟩ := hf it List.mem_cons_self
    have W := Walks.longrange (prog := X.prog) (w := X.w) (I.ok.hd hc) it lo 1 n
    refine W.item i s _ E hg st fun v h' tk hv st' kk => ?_
    obtain ⟨t, rfl⟩ := hv
    have I1 := Inv.turned (t' := tk) I (fun b o hb e => kk b o (by simpa using hb) e) f0 f1 f3 f4 f5
    refine ⟨Value.int (lo + (i : Int) * 1) t, rfl, go_of st' rfl rfl (by decide) ⟨V.int (lo + (i : Int)), H, I1, ⟨t, ?_⟩, ⟨rfl, rfl⟩, st', fun b hb => (hf b hb).1⟩⟩
    rw [Int.mul_one]
  done := fun X hP hw hK hc i pins s σ H E I hf st hg => by
    subst hP hw
    obtain ⟨f0, f1, f2, f3, f4, f5⟩ := hf it List.mem_cons_self
    have hg' : n ≤ i := hg
    exact wpAny_pyNext_long_end (I.ok.hd hc) st (by omega) fun h' eb => ⟨rfl, Inv.turned I (fun b o hb e => eb b o hb e) f0 f1 f3 f4 f5⟩
  self := fun _ _ _ _ _ st h => wpAny_pyIter_longiter st h
theorem range_itW {X : Cx} {tg : Expr} {pins : List (Addr × Obj)} {σ : L2.St} {H : Hp} {s : Shared} {R : It → Hp → Prop} {E : Value → Shared → Prop} {lo hi : Int} {t u v : Tok} {tk : Nat} (I : Inv X pins σ H s) (q : R (Itr lo (hi - lo).toNat) H) :
    wpAny (model X.prog X.w) X.A (pyIter (.ref s.heap.objs.size)) (PIE X pins σ tg R) E { heap := s.heap.push { cls := .type "range", data := .fields #[.int lo t, .int hi u, .int 1 v] }, gens := s.gens, drawn := s.drawn, toks := tk, os := s.os } := by
  have I1 : Inv X pins σ H { heap := s.heap.push { cls := .type "range", data := .fields #[.int lo t, .int hi u, .int 1 v] }, gens := s.gens, drawn := s.drawn, toks := tk, os := s.os } := Inv.kept I fun b o e => Heap.get?_push_of_some _ e
  have fp : ∀ b ∈ [(s.heap.push { cls := .type "range", data := .fields #[.int lo t, .int hi u, .int 1 v] }).objs.size], FpOk X pins H b := fun b hb => by
    rw [List.mem_singleton.mp hb]
    exact Inv.fpOk I1 (Nat.le_refl _) (HOk.fresh I1.hok (Nat.le_refl _))
  have e2 : (((hi - lo).toNat : Nat) : Int) - ((0 : Nat) : Int) = Builtin.Range.rangeSize lo hi 1 := by
    rw [rangeSize_one]
    split <;> omega
  have e1 : lo + ((0 : Nat) : Int) * 1 = lo := by omega
  cases hs : Builtin.Range.small lo hi 1 with
  | true =>
    refine wpAny_pyIter_range (IsRange.new s.1 lo hi 1 t u v) hs ?_
    refine ⟨_, _, _, Itr lo (hi - lo).toNat, H, rfl, Inv.kept I1 fun b o e => Heap.get?_push_of_some _ e, turn_range _ lo (hi - lo).toNat, ?_, fp, q⟩
    show IsRangeIter _ _ _ _ _
    rw [e1, e2]
    exact Heap.get?_push_size _ rfl
  | false =>
    refine wpAny_pyIter_longrange (IsRange.new s.1 lo hi 1 t u v) hs ?_
    refine ⟨_, _, _, Itr lo (hi - lo).toNat, H, rfl, Inv.kept I1 fun b o e => Heap.get?_push_of_some _ e, turn_long _ lo (hi - lo).toNat, ?_, fp, q⟩
    show IsLongIter _ _ _ _ _
    rw [e1, e2]
    exact Heap.get?_push_size _ rfl
def iRng2W (ta : TA) : TI := fun σ H R => ta σ H fun vs H1 => ∃ i j, vs = [V.int i, V.int j] ∧ R (Itr i (j - i).toNat) H1
/-- range(a, b), of any two numbers -/
theorem pi_range2W {X : Cx} {tg a b : Expr} {ta : TA} {p pos : Pos} (hg : Gl X "range") (hm : X.mg "range" = none) (ha : PA X [a, b] ta) (hs : starEach [a, b] X.env = [(false, eval a X.env), (false, eval b X.env)] := by rfl) (hs2 : starEach [b] X.env = [(false, eval b X.env)] := by rfl) :
    PI X tg (.Call (.Name "range" p) [a, b] [] pos) (iRng2W ta) := by
  refine ⟨fun pins s σ H R I h => ?_⟩
  refine wpAny_Call_Name_kw (ld_blt I hg hm boot_range ?_)
  refine PyProof.Rows.callWith_type1 (thn (ha.run pos pins s σ H _ I h) fun us s1 x => ?_) (by rw [hs, hs2]) (by rw [hs2]; rfl)
  obtain ⟨vs, H1, I1, r1, q1⟩ := x
  obtain ⟨i, j, rfl, q⟩ := q1
  obtain ⟨u1, u2, rfl, r, r'⟩ := vals2 r1
  obtain ⟨t, rfl⟩ := r
  obtain ⟨t', rfl⟩ := r'
  exact call_range_2 (range_itW I1 q)
end Loc

set_option Elab.async false
set_option linter.all false
set_option maxRecDepth 100000
namespace C25
open PySem PySem.Spec PyProof.Rows L2 Loc RZ
def topS (i : Nat) : Stmt := PySem.Challenge.pw_localblocks_k25_far_elements.main.body.getD i (.Pass ⟨0, 0, 0, 0⟩)
abbrev sWhole : Stmt := topS 7
abbrev sIsRun : Stmt := topS 8
abbrev sIsBlk : Stmt := topS 9
abbrev sHasParts : Stmt := topS 10
abbrev sRunOf : Stmt := topS 11
abbrev sSize : Stmt := topS 12
abbrev sText : Stmt := topS 13
abbrev sRestFrom : Stmt := topS 15
abbrev sTakeFirst : Stmt := topS 16
abbrev sOpenFirst : Stmt := topS 17
abbrev sFirst : Stmt := topS 21
abbrev sFM : Stmt := topS 22
abbrev sFU : Stmt := topS 23
abbrev sCodeAt : Stmt := topS 24
abbrev sNext : Stmt := topS 25
abbrev sNm : Stmt := topS 26
abbrev sMarks : Stmt := topS 27
abbrev sPeaks : Stmt := topS 28
abbrev sCuts : Stmt := topS 29
abbrev sBlocks : Stmt := topS 30
abbrev sMade : Stmt := topS 31
abbrev sRows : Stmt := topS 33
abbrev sTree : Stmt := topS 34
abbrev sLenOf : Stmt := topS 35
abbrev sElemAt : Stmt := topS 38
abbrev sElemsFrom : Stmt := topS 39
abbrev sWayTo : Stmt := topS 40
abbrev sPartAr : Stmt := topS 41
abbrev sPot : Stmt := topS 43
abbrev sTake : Stmt := topS 44
abbrev sOf : Stmt := topS 45
abbrev sSeq : Stmt := topS 46
abbrev sLRuns : Stmt := topS 47
abbrev sWide : Stmt := topS 48
abbrev s__law_refusal : Stmt := topS 49
abbrev s__law_element : Stmt := topS 50
abbrev sRight : Stmt := topS 51
abbrev sLaw : Stmt := topS 52
end C25

set_option Elab.async false
set_option linter.all false
set_option maxRecDepth 100000
namespace C25
open PySem PySem.Spec PyProof.Rows L2 Loc RZ
/-! ### the program's nodes -/
section
variable {P : Program} {w : World} {K : PySem.W.Frag} {mg : Str → Option Value} {base : Heap}
def spIsRun (K : PySem.W.Frag) : Sp := fun vs H Q _ => ∃ v n, vs = [v] ∧ NdV K H v n ∧ ∀ H', Same H H' → Q (.bl n.isRun) H'
def spIsBlk (K : PySem.W.Frag) : Sp := fun vs H Q _ => ∃ v n, vs = [v] ∧ NdV K H v n ∧ ∀ H', Same H H' → Q (.bl n.isBlk) H'
theorem scIsRun : FnScope ["value"] ["value"] (defScope sIsRun) := ⟨rfl, rfl, rfl, by decide +kernel, rfl, by decide +kernel, by decide +kernel⟩
theorem scIsBlk : FnScope ["value"] ["value"] (defScope sIsBlk) := ⟨rfl, rfl, rfl, by decide +kernel, rfl, by decide +kernel, by decide +kernel⟩
theorem shaped_one (s : Str) (h : PyData.canLay0 (.str s) = true) : SeqAt.shaped (.tuple [.str s]) = true := by
  unfold SeqAt.shaped
  rw [Bool.and_eq_true]
  exact ⟨by simp only [PyData.canLay0, PyData.canLayAll0] at h ⊢; rw [h]; rfl, decide_eq_true (by simp [PyData.depth, PyData.depthAll])⟩
theorem eqv_one (s t : Str) : PyData.eqv (.tuple [.str s]) (.tuple [.str t]) = (s == t) := by simp [PyData.eqv, PyData.eqvAll]
theorem ok_isrun {f : Addr} {fd : FuncData} {k : Nat} (F : Fun K "is_run" "is_run" sIsRun f fd) (mi : mg "isinstance" = none) (mt : mg "tuple" = none) : FnOk P w K mg base CX0 (k + 1) f fd ["value"] (spIsRun K) := by
  refine F.ok scIsRun (fun vs H Q E h => ?_) (fun cdv A outer s H vs Q E hr h => ?_)
  · obtain ⟨v, n, rfl, _⟩ := h
    rfl
  · obtain ⟨v, n, rfl, hn, q⟩ := h
    refine ⟨_, pss_one (ps_ret (pe_and (pe_callB call_isi (by rfl) mi PyProof.Rows.boot_isinstance (pa_cons (pv 0) (pa_cons (pe_bltn (v := .ty "tuple") (by rfl) mt PyProof.Rows.boot_tuple rfl) pa_nil)))
      (pe_one (pe_cmpR (op_eqD hr.units) (pe_slice sl_tupA (pv 0) po_none (po_some pe_int)) (pe_tup (pa_cons pe_str pa_nil)) (nomark _))))), ?_⟩
    cases n with
    | el n =>
      have ev := hn.el
      subst ev
      exact ⟨_, rfl, _, _, _, _, false, rfl, .ty "tuple", .base (.int _), kit_ty (by decide +kernel), _, rfl, q H (Same.refl H)⟩
    | run b c =>
      obtain ⟨a, v2, rfl, h1, h2⟩ := hn.run
      refine ⟨_, rfl, _, _, _, _, true, rfl, .ty "tuple", Loc.SqT.ty h1, kit_ty (by decide +kernel), _, rfl, ?_⟩
      refine ⟨.ref a, rfl, 1, rfl, a, _, rfl, h1, fun hw => absurd hw.2 (show ¬ HT.sIx 3 3 (some 1) = 3 by decide), fun hw p1 n1 => ⟨(show 1 ≤ sizeLine from by decide), fun p2 n2 => ?_⟩⟩
      refine ⟨.tuple [.str "run"], .tuple [.str "run"], .tup (.inl (.inl (sameN n2 _ _ upd_same))) (.cons (.str _) .nil), .tup (.inl (.inl upd_same)) (.cons (.str _) .nil), shaped_one _ str_run_ok.1, shaped_one _ str_run_ok.1, ?_⟩
      rw [eqv_one, beq_self_eq_true]
      exact q _ ((sameN n1).trans (sameN n2))
    | blk ps =>
      obtain ⟨a, b, vs, rfl, h1, h2, h3⟩ := hn.blk
      refine ⟨_, rfl, _, _, _, _, true, rfl, .ty "tuple", Loc.SqT.ty h1, kit_ty (by decide +kernel), _, rfl, ?_⟩
      refine ⟨.ref a, rfl, 1, rfl, a, _, rfl, h1, fun hw => absurd hw.2 (show ¬ HT.sIx 2 2 (some 1) = 2 by decide), fun hw p1 n1 => ⟨(show 1 ≤ sizeLine from by decide), fun p2 n2 => ?_⟩⟩
      refine ⟨.tuple [.str "block"], .tuple [.str "run"], .tup (.inl (.inl (sameN n2 _ _ upd_same))) (.cons (.str _) .nil), .tup (.inl (.inl upd_same)) (.cons (.str _) .nil), shaped_one _ str_run_ok.2, shaped_one _ str_run_ok.1, ?_⟩
      rw [eqv_one, unlike_sorts.2]
      exact q _ ((sameN n1).trans (sameN n2))
theorem ok_isblk {f : Addr} {fd : FuncData} {k : Nat} (F : Fun K "is_block" "is_block" sIsBlk f fd) (mi : mg "isinstance" = none) (mt : mg "tuple" = none) : FnOk P w K mg base CX0 (k + 1) f fd ["value"] (spIsBlk K) := by
  refine F.ok scIsBlk (fun vs H Q E h => ?_) (fun cdv A outer s H vs Q E hr h => ?_)
  · obtain ⟨v, n, rfl, _⟩ := h
    rfl
  · obtain ⟨v, n, rfl, hn, q⟩ := h
    refine ⟨_, pss_one (ps_ret (pe_and (pe_callB call_isi (by rfl) mi PyProof.Rows.boot_isinstance (pa_cons (pv 0) (pa_cons (pe_bltn (v := .ty "tuple") (by rfl) mt PyProof.Rows.boot_tuple rfl) pa_nil)))
      (pe_one (pe_cmpR (op_eqD hr.units) (pe_slice sl_tupA (pv 0) po_none (po_some pe_int)) (pe_tup (pa_cons pe_str pa_nil)) (nomark _))))), ?_⟩
    cases n with
    | el n =>
      have ev := hn.el
      subst ev
      exact ⟨_, rfl, _, _, _, _, false, rfl, .ty "tuple", .base (.int _), kit_ty (by decide +kernel), _, rfl, q H (Same.refl H)⟩
    | run b c =>
      obtain ⟨a, v2, rfl, h1, h2⟩ := hn.run
      refine ⟨_, rfl, _, _, _, _, true, rfl, .ty "tuple", Loc.SqT.ty h1, kit_ty (by decide +kernel), _, rfl, ?_⟩
      refine ⟨.ref a, rfl, 1, rfl, a, _, rfl, h1, fun hw => absurd hw.2 (show ¬ HT.sIx 3 3 (some 1) = 3 by decide), fun hw p1 n1 => ⟨(show 1 ≤ sizeLine from by decide), fun p2 n2 => ?_⟩⟩
      refine ⟨.tuple [.str "run"], .tuple [.str "block"], .tup (.inl (.inl (sameN n2 _ _ upd_same))) (.cons (.str _) .nil), .tup (.inl (.inl upd_same)) (.cons (.str _) .nil), shaped_one _ str_run_ok.1, shaped_one _ str_run_ok.2, ?_⟩
      rw [eqv_one, unlike_sorts.1]
      exact q _ ((sameN n1).trans (sameN n2))
    | blk ps =>
      obtain ⟨a, b, vs, rfl, h1, h2, h3⟩ := hn.blk
      refine ⟨_, rfl, _, _, _, _, true, rfl, .ty "tuple", Loc.SqT.ty h1, kit_ty (by decide +kernel), _, rfl, ?_⟩
      refine ⟨.ref a, rfl, 1, rfl, a, _, rfl, h1, fun hw => absurd hw.2 (show ¬ HT.sIx 2 2 (some 1) = 2 by decide), fun hw p1 n1 => ⟨(show 1 ≤ sizeLine from by decide), fun p2 n2 => ?_⟩⟩
      refine ⟨.tuple [.str "block"], .tuple [.str "block"], .tup (.inl (.inl (sameN n2 _ _ upd_same))) (.cons (.str _) .nil), .tup (.inl (.inl upd_same)) (.cons (.str _) .nil), shaped_one _ str_run_ok.2, shaped_one _ str_run_ok.2, ?_⟩
      rw [eqv_one, beq_self_eq_true]
      exact q _ ((sameN n1).trans (sameN n2))
/-- text_of, of nodes of less than m storeys -/
def spText (K : PySem.W.Frag) (m : Nat) : Sp := fun vs H Q _ => ∃ v n l, vs = [v] ∧ NdV K H v n ∧ Ok n l ∧ wide l ≤ 1000000 ∧ ht n < m ∧ ∀ H', Same H H' → Q (.str (txt n)) H'
theorem scText : FnScope ["node", "part"] ["node"] (defScope sText) := ⟨rfl, rfl, rfl, by decide +kernel, rfl, by decide +kernel, by decide +kernel⟩
theorem ok_text {f g b : Addr} {fd gd bd : FuncData} (F : Fun K "text_of" "text_of" sText f fd) (gF : mg "text_of" = some (.ref f)) (bF : Binds K fd ["node"] []) (R : Fun K "is_run" "is_run" sIsRun g gd) (gR : mg "is_run" = some (.ref g)) (bR : Binds K gd ["value"] [])
    (B : Fun K "is_block" "is_block" sIsBlk b bd) (gB : mg "is_block" = some (.ref b)) (bB : Binds K bd ["value"] []) (mi : mg "isinstance" = none) (mt : mg "tuple" = none) (ms : mg "str" = none) : ∀ m : Nat, FnOk P w K mg base CX0 (m + 1) f fd ["node"] (spText K m)
  | 0 => ⟨fun vs H Q E h => by obtain ⟨v, n, l, _, _, _, _, h, _⟩ := h; exact absurd h (Nat.not_lt_zero _), fun A outer s H args us vs Q E _ _ _ _ h => by obtain ⟨v, n, l, _, _, _, _, h, _⟩ := h; exact absurd h (Nat.not_lt_zero _)⟩
  | m + 1 => by
    have IH : FnOk P w K mg base CX0 (m + 1) f fd ["node"] (spText K m) := ok_text F gF bF R gR bR B gB bB mi mt ms m
    have GR : FnOk P w K mg base CX0 (m + 1) g gd ["value"] (spIsRun K) := ok_isrun R mi mt
    have GB : FnOk P w K mg base CX0 (m + 1) b bd ["value"] (spIsBlk K) := ok_isblk B mi mt
    refine F.ok scText (fun vs H Q E h => ?_) (fun cdv A outer s H vs Q E hr h => ?_)
    · obtain ⟨v, n, l, rfl, _⟩ := h
      rfl
    · obtain ⟨v, n, l, rfl, hn, ok, hw, hh, q⟩ := h
      refine ⟨_, pss_cons (ps_if (pt_val (pe_call GR hr (by rfl) gR R.kp bR .nil pass0 (pa_cons (pv 0) pa_nil)))
            (pss_one (ps_ret (pe_op op_add_str (pe_op op_add_str (pe_call IH hr (by rfl) gF F.kp bF .nil pass0 (pa_cons (pe_ix ix_tup (pv 0) pe_int (fun _ _ => rfl)) pa_nil)) pe_str) (pe_callTy call_str_int (by rfl) ms PyProof.Rows.boot_str (pa_cons (pe_ix ix_tup (pv 0) pe_int (fun _ _ => rfl)) pa_nil))))) pss_nil)
        (pss_cons (ps_if (pt_val (pe_call GB hr (by rfl) gB B.kp bB .nil pass0 (pa_cons (pv 0) pa_nil)))
            (pss_one (ps_ret (pe_op op_add_str (pe_op op_add_str pe_str (pe_join pe_str (pe_lc (own := [("part", 1)]) (g := gName 1) (tt := tYes) rfl scText.nd (pi_tup (pe_ix ix_tup (pv 0) pe_int (fun _ _ => rfl)))
              (blkOk_by (N := ["node", "part"]) (sc := defScope sText) (by decide +kernel)) (fun _ _ _ _ _ => pg_name (i := 1) scText.nd rfl (Or.inl rfl)) (fun _ _ _ _ _ => pts_nil)
              (fun _ _ _ _ _ => pe_call IH hr (by rfl) gF F.kp bF .nil pass0 (pa_cons (pv 1) pa_nil))))) pe_str))) pss_nil)
        (pss_one (ps_ret (pe_callTy call_str_int (by rfl) ms PyProof.Rows.boot_str (pa_cons (pv 0) pa_nil))))), ?_⟩
      have tl := txt_len n l ok
      refine ⟨v, rfl, v, n, rfl, hn, fun H1 s1 => ?_⟩
      have hn1 := hn.up (.of s1)
      cases n with
      | run b c =>
        refine ⟨_, rfl, iteT ?_⟩
        obtain ⟨a, v2, rfl, h1, h2⟩ := hn1.run
        unfold Ok at ok
        have tb := txt_len b l ok.2.2.2
        rw [ok.2.2.1] at tb
        simp only [Bool.false_eq_true, if_false] at tb
        have nl := numT_len (n := c) (k := 61) (by decide) (Nat.lt_of_le_of_lt ok.2.1 (by decide +kernel))
        have e1 : (Str.ofString "^").length = 1 := by decide +kernel
        refine ⟨.ref a, rfl, a, _, 1, v2, rfl, rfl, h1, rfl, v2, b, l, rfl, h2, ok.2.2.2, hw, ?_, fun H2 s2 => ?_⟩
        · unfold ht at hh
          omega
        refine ⟨_, _, rfl, rfl, ?_, .ref a, rfl, a, _, 2, .int c, rfl, rfl, sameT s2 h1, rfl, c, rfl, log60 ok.2.1, _, _, rfl, rfl, ?_, ?_⟩
        · rw [e1]
          exact Nat.le_trans (show (txt b).length + 1 ≤ 1000001 by omega) (by decide)
        · rw [strLen_append, e1]
          have : (numT c).length ≤ 61 := nl
          exact Nat.le_trans (show (txt b).length + 1 + (numT c).length ≤ 1000100 by omega) (by decide)
        · have := q H2 (s1.trans s2)
          unfold txt at this
          exact this
      | el n =>
        refine ⟨_, rfl, iteF ?_⟩
        refine ⟨v, rfl, v, .el n, rfl, hn1, fun H2 s2 => ⟨_, rfl, iteF ?_⟩⟩
        have ev := hn.el
        subst ev
        unfold Ok at ok
        refine ⟨_, rfl, n, rfl, log60 (Nat.le_trans ok.2 (by decide +kernel)), ?_⟩
        have := q H2 (s1.trans s2)
        unfold txt at this
        exact this
      | blk ps =>
        refine ⟨_, rfl, iteF ?_⟩
        refine ⟨v, rfl, v, .blk ps, rfl, hn1, fun H2 s2 => ⟨_, rfl, iteT ?_⟩⟩
        obtain ⟨a, bb, vs, rfl, h1, h2, h3⟩ := (hn1.up (.of s2)).blk
        have okc := ok
        unfold Ok at ok
        obtain ⟨l1, l2, l3, okp, _⟩ := ok
        have lv := h3.len
        have sm := txts_len ps (l - 1) okp
        obtain ⟨j, rfl⟩ : ∃ j, l = j + 1 := ⟨l - 1, by omega⟩
        simp only [Nat.add_sub_cancel] at sm okp
        have wj : wide (j + 1) = 3 * wide j + 110 := rfl
        have mm : ps.length * wide j ≤ 3 * wide j := Nat.mul_le_mul_right _ l3
        refine ⟨⟨_, rfl⟩, .ref a, rfl, a, _, 1, .ref bb, rfl, rfl, h1, rfl, bb, rfl, ⟨vs, h2⟩, fun D nD => ?_⟩
        refine lc_tup (xs := vs) (fun i H' => H' D = some (.lst (((txts ps).take i).map V.str)) ∧ Same H2 H') ⟨by rw [List.take_zero]; exact upd_same, sameN nD⟩ (fun i H' _ hp => sameT hp.2 h2) (fun i u H' hu hp => ?_) (fun H' hp => ?_)
        · obtain ⟨g1, s3⟩ := hp
          obtain ⟨x, hx, kx⟩ := (h3.up (.of s3)).get hu
          have hmem := List.mem_of_getElem? hx
          have ht2 : ht x < m := by
            have := hts_mem hmem
            unfold ht at hh
            omega
          have htx : (txts ps)[i]? = some (txt x) := by rw [txts_map, List.getElem?_map, hx]; rfl
          refine ⟨rfl, u, rfl, u, x, j, rfl, kx, okp.mem x hmem, by omega, ht2, fun H3 s4 => ⟨_, s4 _ _ g1, ?_, ?_, sameW (s3.trans s4) nD⟩⟩
          · rw [List.length_map]
            refine line5 (small_take ?_)
            rw [txts_map, List.length_map]
            omega
          · rw [upd_same, take_more htx, List.map_append]
            rfl
        · obtain ⟨g1, s3⟩ := hp
          have full : (txts ps).take vs.length = txts ps := List.take_of_length_le (by rw [txts_map, List.length_map, lv]; exact Nat.le_refl _)
          rw [full] at g1
          have e1 : (Str.ofString "(").length = 1 := by decide +kernel
          have e2 : (Str.ofString ")").length = 1 := by decide +kernel
          have e3 : (Str.ofString " ").length = 1 := by decide +kernel
          have e4 : (txts ps).length = ps.length := by rw [txts_map, List.length_map]
          have g := size_glued " " (txts ps)
          rw [e3, e4] at g
          have g' : (Txt.join " " (txts ps)).length = ((txts ps).map (·.length)).sum + (ps.length - 1) * 1 := g
          refine ⟨_, D, txts ps, rfl, rfl, .inl (.inl (.inl g1)), ?_, _, _, rfl, rfl, ?_, _, _, rfl, rfl, ?_, ?_⟩
          · rw [e3, e4]
            omega
          · rw [e1]
            refine Nat.le_trans (show 1 + (Txt.join " " (txts ps)).length ≤ 1000100 by omega) (by decide)
          · rw [strLen_append, e1, e2]
            refine Nat.le_trans (show 1 + (Txt.join " " (txts ps)).length + 1 ≤ 1000100 by omega) (by decide)
          · have := q H' (s1.trans (s2.trans s3))
            unfold txt at this
            exact this
end
/-! ### first marks -/
section
variable {P : Program} {w : World} {K : PySem.W.Frag} {mg : Str → Option Value} {base : Heap}
theorem scCode : FnScope ["text", "at"] ["text", "at"] (defScope sCodeAt) := ⟨rfl, rfl, rfl, by decide +kernel, rfl, by decide +kernel, by decide +kernel⟩
theorem scFU : FnScope ["one", "other", "at"] ["one", "other"] (defScope sFU) := ⟨rfl, rfl, rfl, by decide +kernel, rfl, by decide +kernel, by decide +kernel⟩
theorem scFM : FnScope ["texts", "place", "first"] ["texts", "place"] (defScope sFM) := ⟨rfl, rfl, rfl, by decide +kernel, rfl, by decide +kernel, by decide +kernel⟩
theorem scFirst : FnScope ["row", "texts", "node", "place"] ["row"] (defScope sFirst) := ⟨rfl, rfl, rfl, by decide +kernel, rfl, by decide +kernel, by decide +kernel⟩
def spCode : Sp := fun vs H Q _ => ∃ (s : Str) (t : List Nat) (i : Nat), vs = [.str s, .int i] ∧ TL.tl s = t ∧ (∀ c ∈ t, Sg c) ∧ s.length ≤ sizeLine ∧ Q (.int (codeAt t i : Nat)) H
def spFU : Sp := fun vs H Q _ => ∃ (s t : Str), vs = [.str s, .str t] ∧ s.length ≤ sizeLine ∧ t.length ≤ sizeLine ∧ Q (.int (cp (TL.tl s) (TL.tl t) : Nat)) H
theorem ok_code {f : Addr} {fd : FuncData} {k : Nat} {tS tE : Tok} (F : Fun K "_code_at" "_code_at" sCodeAt f fd) (ml : mg "len" = none) (gS : mg "SIGNS" = some (.str "0123456789 ()^" tS)) (gE : mg "ENDED" = some (.int 14 tE)) : FnOk P w K mg base CX0 (k + 1) f fd ["text", "at"] spCode := by
  refine F.ok scCode (fun vs H Q E h => ?_) (fun cdv A outer s H vs Q E hr h => ?_)
  · obtain ⟨s, t, i, rfl, _⟩ := h
    rfl
  · obtain ⟨x, t, i, rfl, rfl, hs, hl, q⟩ := h
    refine ⟨_, pss_cons (ps_if (pt_cmpR op_lt (pv 1) (pe_callB call_len_str (by rfl) ml PySem.boot_len (pa_cons (pv 0) pa_nil)) (nomark _))
        (pss_one (ps_ret (pe_m1 PySem.F.slot_str_index PySem.F.type_str_index mt_sindex (pe_glob (v := .str "0123456789 ()^") (by rfl) gS ⟨_, rfl⟩) (pe_ix ix_str (pv 0) (pv 1) (fun _ _ => rfl)) (by rfl) (by rfl) (by rfl)))) pss_nil)
      (pss_one (ps_ret (pe_glob (v := .int 14) (by rfl) gE ⟨_, rfl⟩))), ?_⟩
    refine ⟨_, rfl, _, rfl, x, rfl, hl, _, _, rfl, rfl, _, rfl, ite2 (fun e => ?_) (fun e => ?_)⟩
    · have e1 : (i : Int) < ((x.length : Nat) : Int) := of_decide_eq_true e
      rw [TL.len_tl] at e1
      obtain ⟨c, hc⟩ := get_of (l := TL.tl x) (i := i) (by omega)
      obtain ⟨rest, eo⟩ := sign_at (hs c (List.mem_of_getElem? hc))
      rw [codeAt_some hc] at q
      exact ⟨⟨_, rfl⟩, _, rfl, _, rfl, x, i, c, rfl, rfl, hl, atI_nat hc, _, _, _, rest, rfl, rfl, eo, q⟩
    · have e1 : ¬ (i : Int) < ((x.length : Nat) : Int) := fun z => e (decide_eq_true z)
      rw [TL.len_tl] at e1
      rw [codeAt_none (List.getElem?_eq_none_iff.mpr (by omega))] at q
      exact q
theorem ok_fu {f : Addr} {fd : FuncData} {k : Nat} (F : Fun K "_first_unlike" "_first_unlike" sFU f fd) (ml : mg "len" = none) : FnOk P w K mg base CX0 (k + 1) f fd ["one", "other"] spFU := by
  refine F.ok scFU (fun vs H Q E h => ?_) (fun cdv A outer s H vs Q E hr h => ?_)
  · obtain ⟨s, t, rfl, _⟩ := h
    rfl
  · obtain ⟨x, y, rfl, hx, hy, q⟩ := h
    refine ⟨_, pss_cons (ps_set (i := 2) scFU.nd rfl (.inl rfl) pe_int)
      (pss_cons (ps_while PassesOwn.never (PW.pt (pw_and (pt_cmpR op_lt (pv 2) (pe_callB call_len_str (by rfl) ml PySem.boot_len (pa_cons (pv 0) pa_nil)) (nomark _))
          (pw_and (pt_cmpR op_lt (pv 2) (pe_callB call_len_str (by rfl) ml PySem.boot_len (pa_cons (pv 1) pa_nil)) (nomark _))
          (pw_and1 (pt_cmpR op_eq (pe_ix ix_str (pv 0) (pv 2) (fun _ _ => rfl)) (pe_ix ix_str (pv 1) (pv 2) (fun _ _ => rfl)) (nomark _))))))
        (pss_one (ps_aug (i := 2) scFU.nd rfl (.inl rfl) pe_int ip_add)))
      (pss_one (ps_ret (pv 2)))), ?_⟩
    refine ⟨fun m σ H' => ∃ i : Nat, i + m = cp (TL.tl x) (TL.tl y) ∧ σ = [some (.str x), some (.str y), some (.int i)] ∧ H' = H, ⟨_, 0, Nat.zero_add _, rfl, rfl⟩, ?_⟩
    rintro m σ H' ⟨i, im, rfl, rfl⟩
    have lx := TL.len_tl x
    have ly := TL.len_tl y
    refine ⟨_, rfl, _, rfl, x, rfl, hx, _, _, rfl, rfl, _, rfl, ?_⟩
    by_cases c1 : i < (TL.tl x).length
    · obtain ⟨c, hc⟩ := get_of c1
      rw [show decide ((i : Int) < ((x.length : Nat) : Int)) = true from decide_eq_true (by omega)]
      refine ⟨_, rfl, _, rfl, y, rfl, hy, _, _, rfl, rfl, _, rfl, ?_⟩
      by_cases c2 : i < (TL.tl y).length
      · obtain ⟨d, hd⟩ := get_of c2
        rw [show decide ((i : Int) < ((y.length : Nat) : Int)) = true from decide_eq_true (by omega)]
        refine ⟨_, rfl, _, rfl, x, i, c, rfl, rfl, hx, atI_nat hc, _, rfl, _, rfl, y, i, d, rfl, rfl, hy, atI_nat hd, rfl, _, rfl, ?_⟩
        rw [Loc.one_sign]
        by_cases e : c = d
        · rw [decide_eq_true e]
          have hlt : i < cp (TL.tl x) (TL.tl y) := by
            rcases Nat.lt_or_ge i (cp (TL.tl x) (TL.tl y)) with z | z
            · exact z
            · have : i = cp (TL.tl x) (TL.tl y) := by omega
              rw [this] at hc hd
              exact absurd e (cp_stop _ _ c d hc hd)
          refine ⟨fun σ' H'' => σ' = [some (.str x), some (.str y), some (.int ((i + 1 : Nat) : Int))] ∧ H'' = H', fun σ' H'' hN => ⟨m - 1, by omega, i + 1, by omega, hN.1, hN.2⟩, ?_⟩
          refine ⟨_, rfl, i, 1, rfl, rfl, ?_, rfl⟩
          rw [Int.natCast_add]
          rfl
        · rw [decide_eq_false e]
          have : i = cp (TL.tl x) (TL.tl y) := by
            rcases Nat.lt_or_ge i (cp (TL.tl x) (TL.tl y)) with z | z
            · obtain ⟨u, h1, h2⟩ := cp_same _ _ i z
              rw [hc] at h1
              rw [hd] at h2
              exact absurd ((Option.some.inj h1).trans (Option.some.inj h2).symm) e
            · omega
          rw [← this] at q
          exact ⟨_, rfl, q⟩
      · rw [show decide ((i : Int) < ((y.length : Nat) : Int)) = false from decide_eq_false (by omega)]
        have : i = cp (TL.tl x) (TL.tl y) := by
          have := (cp_le (TL.tl x) (TL.tl y)).2
          omega
        rw [← this] at q
        exact ⟨_, rfl, q⟩
    · rw [show decide ((i : Int) < ((x.length : Nat) : Int)) = false from decide_eq_false (by omega)]
      have : i = cp (TL.tl x) (TL.tl y) := by
        have := (cp_le (TL.tl x) (TL.tl y)).1
        omega
      rw [← this] at q
      exact ⟨_, rfl, q⟩
def spFM (K : PySem.W.Frag) : Sp := fun vs H Q _ => ∃ (a : Addr) (ns : List Nd) (l : Nat) (z : Int) (i m : Nat), vs = [.ref a, .int z] ∧ z = i ∧ SqL K H a (vT ns) ∧ OkAll ns l ∧ wide l ≤ 1000000 ∧ (fms (ns.map cd))[i]? = some m ∧ Q (.int (m : Nat)) H
theorem ok_fm {f g c : Addr} {fd gd cd' : FuncData} {k : Nat} {tS tE : Tok} (F : Fun K "_first_mark" "_first_mark" sFM f fd) (U : Fun K "_first_unlike" "_first_unlike" sFU g gd) (gU : mg "_first_unlike" = some (.ref g)) (bU : Binds K gd ["one", "other"] [])
    (C : Fun K "_code_at" "_code_at" sCodeAt c cd') (gC : mg "_code_at" = some (.ref c)) (bC : Binds K cd' ["text", "at"] []) (ml : mg "len" = none) (gS : mg "SIGNS" = some (.str "0123456789 ()^" tS)) (gE : mg "ENDED" = some (.int 14 tE)) :
    FnOk P w K mg base CX0 (k + 2) f fd ["texts", "place"] (spFM K) := by
  have GU : FnOk P w K mg base CX0 (k + 1) g gd ["one", "other"] spFU := ok_fu U ml
  have GC : FnOk P w K mg base CX0 (k + 1) c cd' ["text", "at"] spCode := ok_code C ml gS gE
  refine F.ok scFM (fun vs H Q E h => ?_) (fun cdv A outer s H vs Q E hr h => ?_)
  · obtain ⟨a, ns, l, z, i, m, rfl, _⟩ := h
    rfl
  · obtain ⟨a, ns, l, z, i, m, rfl, rfl, hS, ok, hw, hm, q⟩ := h
    refine ⟨_, pss_cons (ps_if (pt_cmpR op_eq (pv 1) pe_int (nomark _)) (pss_one (ps_ret (pe_call GC hr (by rfl) gC C.kp bC .nil pass0 (pa_cons (pe_ix ix_list (pv 0) pe_int (fun _ _ => rfl)) (pa_cons pe_int pa_nil))))) pss_nil)
      (pss_cons (ps_set (i := 2) scFM.nd rfl (.inl rfl) (pe_call GU hr (by rfl) gU U.kp bU .nil pass0 (pa_cons (pe_ix ix_list (pv 0) (pe_op op_sub (pv 1) pe_int) (fun _ _ => rfl)) (pa_cons (pe_ix ix_list (pv 0) (pv 1) (fun _ _ => rfl)) pa_nil))))
      (pss_one (ps_ret (pe_op op_add (pe_op op_mul pe_int (pv 2)) (pe_call GC hr (by rfl) gC C.kp bC .nil pass0 (pa_cons (pe_ix ix_list (pv 0) (pv 1) (fun _ _ => rfl)) (pa_cons (pv 2) pa_nil))))))), ?_⟩
    have hi : i < ns.length := by
      have := (List.getElem?_eq_some_iff.mp hm).1
      rwa [fms_length, List.length_map] at this
    refine ⟨_, rfl, rfl, _, rfl, ite2 (fun e => ?_) (fun e => ?_)⟩
    · have e0 : (i : Int) = 0 := V.int.inj (of_decide_eq_true e)
      have e1 : i = 0 := by omega
      subst e1
      obtain ⟨n, hn⟩ := get_of hi
      have okn := ok.mem n (List.mem_of_getElem? hn)
      refine ⟨.ref a, rfl, a, _, ((0 : Nat) : Int), .str (txt n), rfl, rfl, hS, atI_nat (vT_get hn), txt n, cd n, 0, rfl, tl_txt n, cd_sg n, (len_cd okn hw).2, ?_⟩
      have : (fms (ns.map cd))[0]? = some (codeAt (cd n) 0) := by
        match ns, hn with
        | x :: r, hn =>
          have : x = n := by simpa using hn
          rw [this]
          rfl
      rw [hm] at this
      rw [← Option.some.inj this]
      exact q
    · have e1 : i ≠ 0 := fun z => e (by rw [z]; rfl)
      obtain ⟨j, rfl⟩ : ∃ j, i = j + 1 := ⟨i - 1, by omega⟩
      obtain ⟨x, hx⟩ := get_of (l := ns) (i := j) (by omega)
      obtain ⟨y, hy⟩ := get_of hi
      have okx := ok.mem x (List.mem_of_getElem? hx)
      have oky := ok.mem y (List.mem_of_getElem? hy)
      have em := fms_get (ns.map cd) j (cd x) (cd y) (by rw [List.getElem?_map, hx]; rfl) (by rw [List.getElem?_map, hy]; rfl)
      rw [hm] at em
      have em := Option.some.inj em
      refine ⟨.ref a, rfl, _, rfl, _, 1, rfl, rfl, a, _, _, .str (txt x), rfl, rfl, hS, at_of (j := j) (by omega) (vT_get hx), .ref a, rfl, _, rfl, a, _, _, .str (txt y), rfl, rfl, hS, atI_nat (vT_get hy), txt x, txt y, rfl, (len_cd okx hw).2, (len_cd oky hw).2, ?_⟩
      rw [tl_txt, tl_txt]
      refine ⟨_, rfl, 16, _, rfl, rfl, .inl ⟨by decide, by decide⟩, .ref a, rfl, _, rfl, a, _, _, .str (txt y), rfl, rfl, hS, atI_nat (vT_get hy), _, rfl, txt y, cd y, cp (cd x) (cd y), rfl, tl_txt y, cd_sg y, (len_cd oky hw).2, _, _, rfl, rfl, ?_⟩
      rw [em] at q
      unfold fmk at q
      rw [Int.natCast_add, Int.natCast_mul] at q
      exact q
/-- first_marks, of rows of nodes of less than m storeys -/
def spFirst (K : PySem.W.Frag) (m : Nat) : Sp := fun vs H Q _ => ∃ (a : Addr) (us : List V) (ns : List Nd) (l : Nat), vs = [.ref a] ∧ SqT K H a us ∧ NdsV K H us ns ∧ OkAll ns l ∧ wide l ≤ 1000000 ∧ (∀ n ∈ ns, ht n < m) ∧ ns.length ≤ 100000 ∧
  ∀ H' p, Same H H' → H' p = some (.tup ((fms (ns.map cd)).map fun n : Nat => V.int (n : Int))) → Q (.ref p) H'
structure FirstF (K : PySem.W.Frag) (mg : Str → Option Value) (fA fC fX f1 f2 f3 : Addr) (dA dC dX d1 d2 d3 : FuncData) (tS tE : Tok) : Prop where
  A : Fun K "is_run" "is_run" sIsRun fA dA
  C : Fun K "is_block" "is_block" sIsBlk fC dC
  X : Fun K "text_of" "text_of" sText fX dX
  F1 : Fun K "_first_mark" "_first_mark" sFM f1 d1
  F2 : Fun K "_first_unlike" "_first_unlike" sFU f2 d2
  F3 : Fun K "_code_at" "_code_at" sCodeAt f3 d3
  gA : mg "is_run" = some (.ref fA)
  gC : mg "is_block" = some (.ref fC)
  gX : mg "text_of" = some (.ref fX)
  gF1 : mg "_first_mark" = some (.ref f1)
  gF2 : mg "_first_unlike" = some (.ref f2)
  gF3 : mg "_code_at" = some (.ref f3)
  bA : Binds K dA ["value"] []
  bC : Binds K dC ["value"] []
  bX : Binds K dX ["node"] []
  bF1 : Binds K d1 ["texts", "place"] []
  bF2 : Binds K d2 ["one", "other"] []
  bF3 : Binds K d3 ["text", "at"] []
  SIGNS : mg "SIGNS" = some (.str "0123456789 ()^" tS)
  ENDED : mg "ENDED" = some (.int 14 tE)
  len : mg "len" = none
  tuple : mg "tuple" = none
  range : mg "range" = none
  isinstance : mg "isinstance" = none
  str : mg "str" = none
theorem ok_first {fA fC fX f1 f2 f3 f : Addr} {dA dC dX d1 d2 d3 fd : FuncData} {tS tE : Tok} (F : Fun K "first_marks" "first_marks" sFirst f fd) (X : FirstF K mg fA fC fX f1 f2 f3 dA dC dX d1 d2 d3 tS tE) (m : Nat) : FnOk P w K mg base CX0 (m + 3) f fd ["row"] (spFirst K m) := by
  have GX : FnOk P w K mg base CX0 (m + 1) fX dX ["node"] (spText K m) := ok_text X.X X.gX X.bX X.A X.gA X.bA X.C X.gC X.bC X.isinstance X.tuple X.str m
  have G1 : FnOk P w K mg base CX0 (m + 2) f1 d1 ["texts", "place"] (spFM K) := ok_fm X.F1 X.F2 X.gF2 X.bF2 X.F3 X.gF3 X.bF3 X.len X.SIGNS X.ENDED
  refine F.ok scFirst (fun vs H Q E h => ?_) (fun cdv A outer s H vs Q E hr h => ?_)
  · obtain ⟨a, us, ns, l, rfl, _⟩ := h
    rfl
  · obtain ⟨a, us, ns, l, rfl, hS, hn, ok, hw, hh, hl, q⟩ := h
    have r1 := hr.mono (j := m + 1) (by omega)
    refine ⟨_, pss_cons (ps_set (i := 1) scFirst.nd rfl (.inr rfl) (pe_lc (own := [("node", 2)]) (g := gName 2) (tt := tYes) rfl scFirst.nd (pi_tup (pv 0)) (blkOk_by (N := ["row", "texts", "node", "place"]) (sc := defScope sFirst) (by decide +kernel))
        (fun _ _ _ _ _ => pg_name (i := 2) scFirst.nd rfl (Or.inl rfl)) (fun _ _ _ _ _ => pts_nil) (fun _ _ _ _ _ => pe_call GX r1 (by rfl) X.gX X.X.kp X.bX .nil pass0 (pa_cons (pv 2) pa_nil))))
      (pss_one (ps_ret (pe_callTy call_tuple_of (by rfl) X.tuple PyProof.Rows.boot_tuple (pa_cons (pe_lc (own := [("place", 3)]) (g := gName 3) (tt := tYes) rfl scFirst.nd
        (pi_range1 (by rfl) X.range (pa_cons (pe_callB call_len_seq (by rfl) X.len PySem.boot_len (pa_cons (pv 1) pa_nil)) pa_nil)) (blkOk_by (N := ["row", "texts", "node", "place"]) (sc := defScope sFirst) (by decide +kernel))
        (fun _ _ _ _ _ => pg_name (i := 3) scFirst.nd rfl (Or.inl rfl)) (fun _ _ _ _ _ => pts_nil)
        (fun _ _ _ _ _ => pe_call G1 hr (by rfl) X.gF1 X.F1.kp X.bF1 .nil pass0 (pa_cons (pv 1) (pa_cons (pv 3) pa_nil)))) pa_nil)))), ?_⟩
    have hlu := hn.len
    refine ⟨.ref a, rfl, a, rfl, ⟨us, hS⟩, fun D nD => ?_⟩
    refine lc_tup (xs := us) (fun i H' => H' D = some (.lst (vT (ns.take i))) ∧ Same H H') ⟨by rw [List.take_zero]; exact upd_same, sameN nD⟩ (fun i H' _ hp => sameT hp.2 hS) (fun i u H' hu hp => ?_) (fun H1 hp => ?_)
    · obtain ⟨g1, s3⟩ := hp
      obtain ⟨x, hx, kx⟩ := (hn.up (.of s3)).get hu
      have hmem := List.mem_of_getElem? hx
      refine ⟨rfl, u, rfl, u, x, l, rfl, kx, ok.mem x hmem, hw, hh x hmem, fun H3 s4 => ⟨_, s4 _ _ g1, ?_, ?_, sameW (s3.trans s4) nD⟩⟩
      · rw [List.length_map]
        exact line5 (small_take hl)
      · rw [upd_same, take_more hx]
        exact congrArg (fun z => some (HO.lst z)) (show vT (ns.take i) ++ [V.str (txt x)] = vT (ns.take i ++ [x]) by unfold vT; rw [List.map_append]; rfl)
    obtain ⟨g1, s1⟩ := hp
    rw [hlu, List.take_length] at g1
    have lf : (fms (ns.map cd)).length = ns.length := by rw [fms_length, List.length_map]
    have lv : (vT ns).length = ns.length := List.length_map _
    refine ⟨.ref D, rfl, D, vT ns, rfl, .inl (.inl (.inl g1)), _, rfl, ?_, ?_, fun D2 nD2 => ?_⟩
    · show -(2 ^ 62) ≤ (((vT ns).length : Nat) : Int)
      omega
    · show (((vT ns).length : Nat) : Int) < 2 ^ 62
      rw [lv]
      omega
    refine lc_range (fun i H' => H' = upd H1 D2 (.lst (((fms (ns.map cd)).take i).map fun n : Nat => V.int (n : Int)))) (by rw [List.take_zero]; rfl) (fun i H' hi hp => ?_) (fun H' hp => ?_)
    · subst hp
      rw [Int.toNat_natCast, lv] at hi
      obtain ⟨mk, hmk⟩ := get_of (l := fms (ns.map cd)) (i := i) (by omega)
      refine ⟨rfl, .ref D, rfl, _, rfl, D, ns, l, _, i, mk, rfl, by omega, .inl (.inl (sameN nD2 _ _ g1)), ok, hw, hmk, _, upd_same, ?_, ?_⟩
      · rw [List.length_map]
        exact line5 (small_take (by omega))
      · rw [upd_upd, take_more hmk]
        exact congrArg (fun z => upd H1 D2 (.lst z)) (show ((fms (ns.map cd)).take i).map (fun n : Nat => V.int (n : Int)) ++ [V.int (mk : Int)] = ((fms (ns.map cd)).take i ++ [mk]).map (fun n : Nat => V.int (n : Int)) by rw [List.map_append]; rfl)
    · subst hp
      rw [Int.toNat_natCast, lv, ← lf, List.take_length]
      refine ⟨D2, _, rfl, .inl ⟨.inl (.inl upd_same), fun t nt => ?_⟩⟩
      exact q _ t (s1.trans ((sameN nD2).trans (sameN nt))) upd_same
end
/-! ### the later rounds -/
abbrev vN (ns : List Nat) : List V := ns.map fun n : Nat => V.int (n : Int)
theorem vN_get {ns : List Nat} {i n : Nat} (h : ns[i]? = some n) : (vN ns)[i]? = some (.int (n : Int)) := by
  rw [List.getElem?_map, h]
  rfl
theorem vN_len (ns : List Nat) : (vN ns).length = ns.length := List.length_map _
theorem vN_app (ns : List Nat) (n : Nat) : vN (ns ++ [n]) = vN ns ++ [.int (n : Int)] := List.map_append
section
variable {P : Program} {w : World} {K : PySem.W.Frag} {mg : Str → Option Value} {base : Heap}
theorem scNm : FnScope ["some", "place", "unlike", "lowest"] ["some", "place"] (defScope sNm) := ⟨rfl, rfl, rfl, by decide +kernel, rfl, by decide +kernel, by decide +kernel⟩
theorem scNext : FnScope ["some", "place"] ["some"] (defScope sNext) := ⟨rfl, rfl, rfl, by decide +kernel, rfl, by decide +kernel, by decide +kernel⟩
def spNm (K : PySem.W.Frag) : Sp := fun vs H Q _ => ∃ (a : Addr) (ns : List Nat) (z : Int) (i m : Nat), vs = [.ref a, .int z] ∧ z = i ∧ SqT K H a (vN ns) ∧ M07.Unl ns ∧ (M07.round ns)[i]? = some m ∧ Q (.int (m : Int)) H
theorem ok_nm {f : Addr} {fd : FuncData} {k : Nat} (F : Fun K "_next_mark" "_next_mark" sNm f fd) : FnOk P w K mg base CX0 (k + 1) f fd ["some", "place"] (spNm K) := by
  refine F.ok scNm (fun vs H Q E h => ?_) (fun cdv A outer s H vs Q E hr h => ?_)
  · obtain ⟨a, ns, z, i, m, rfl, _⟩ := h
    rfl
  · obtain ⟨a, ns, z, i, m, rfl, rfl, hS, un, hm, q⟩ := h
    refine ⟨_, pss_cons (ps_if (pt_cmpR op_eq (pv 1) pe_int (nomark _)) (pss_one (ps_ret (pe_op op_and (pe_ix ix_tup (pv 0) pe_int (fun _ _ => rfl)) pe_int))) pss_nil)
      (pss_cons (ps_set (i := 2) scNm.nd rfl (.inl rfl) (pe_op op_xor (pe_ix ix_tup (pv 0) (pe_op op_sub (pv 1) pe_int) (fun _ _ => rfl)) (pe_ix ix_tup (pv 0) (pv 1) (fun _ _ => rfl))))
      (pss_cons (ps_set (i := 3) scNm.nd rfl (.inl rfl) (pe_op op_sub (pe_bits (pe_op op_and (pv 2) (pe_un un_neg (pv 2)))) pe_int))
      (pss_one (ps_ret (pe_op op_add (pe_op op_mul pe_int (pv 3)) (pe_op op_and (pe_op op_shr (pe_ix ix_tup (pv 0) (pv 1) (fun _ _ => rfl)) (pv 3)) pe_int)))))), ?_⟩
    have hi : i < ns.length := by
      have := (List.getElem?_eq_some_iff.mp hm).1
      rwa [M07.round_length] at this
    refine ⟨.int i, rfl, rfl, _, rfl, ite2 (fun e => ?_) (fun e => ?_)⟩
    · have e0 : (i : Int) = 0 := V.int.inj (of_decide_eq_true e)
      have e1 : i = 0 := by omega
      subst e1
      match ns, hi, hm, hS with
      | n :: r, _, hm, hS =>
        have e2 : n % 2 = m := Option.some.inj hm
        refine ⟨.ref a, rfl, a, _, ((0 : Nat) : Int), .int n, rfl, rfl, hS, atI_nat (by rfl), n, 1, rfl, rfl, ?_⟩
        show Q (.int (Builtin.bitAnd (n : Int) 1)) H
        rw [PyProof.Rows.bitAnd_m1, ← show ((m : Nat) : Int) = (n : Int) % 2 by omega]
        exact q
    · have e1 : i ≠ 0 := fun z => e (by rw [z]; rfl)
      obtain ⟨j, rfl⟩ : ∃ j, i = j + 1 := ⟨i - 1, by omega⟩
      have gx : ns[j]? = some ns[j] := List.getElem?_eq_getElem (by omega)
      have gy : ns[j + 1]? = some ns[j + 1] := List.getElem?_eq_getElem hi
      have hne := M07.Unl.get un gx gy
      generalize ns[j] = x at gx hne
      generalize ns[j + 1] = y at gy hne
      have em := M07.round_get ns j x y gx gy
      rw [hm] at em
      have em := Option.some.inj em
      refine ⟨.ref a, rfl, .int ((j + 1 : Nat) : Int), rfl, _, 1, rfl, rfl, a, _, (j : Nat), .int x, rfl, ?_, hS, atI_nat (vN_get gx), .ref a, rfl, .int ((j + 1 : Nat) : Int), rfl, a, _, ((j + 1 : Nat) : Int), .int y, rfl, rfl, hS, atI_nat (vN_get gy), x, y, rfl, rfl, ?_⟩
      · show V.int (((j + 1 : Nat) : Int) - 1) = V.int (j : Nat)
        congr 1
        omega
      refine ⟨_, rfl, _, rfl, _, rfl, _, _, rfl, rfl, _, rfl, _, 1, rfl, rfl, _, rfl, 2, _, rfl, rfl, .inl ⟨by decide, by decide⟩, .ref a, rfl, .int ((j + 1 : Nat) : Int), rfl, a, _, ((j + 1 : Nat) : Int), .int y, rfl, rfl, hS, atI_nat (vN_get gy), _, rfl, y, _, rfl, rfl, ?_,
        _, 1, rfl, rfl, _, _, rfl, rfl, ?_⟩
      · show (0 : Int) ≤ ((Builtin.Int.intBits (Builtin.bitAnd (Builtin.bitXor (x : Int) (y : Int)) (-(Builtin.bitXor (x : Int) (y : Int)))) : Nat) : Int) - 1
        rw [M07.low_word hne]
        omega
      · have mw := M07.mark_word hne
        rw [← em] at mw
        rw [← mw] at q
        exact q
/-- next_marks -/
def spNext (K : PySem.W.Frag) : Sp := fun vs H Q _ => ∃ (a : Addr) (ns : List Nat), vs = [.ref a] ∧ SqT K H a (vN ns) ∧ M07.Unl ns ∧ ns.length ≤ 100000 ∧
  ∀ H' p, Same H H' → H' p = some (.tup (vN (M07.round ns))) → Q (.ref p) H'
theorem ok_next {f g : Addr} {fd gd : FuncData} {k : Nat} (F : Fun K "next_marks" "next_marks" sNext f fd) (M : Fun K "_next_mark" "_next_mark" sNm g gd) (gM : mg "_next_mark" = some (.ref g)) (bM : Binds K gd ["some", "place"] [])
    (ml : mg "len" = none) (mr : mg "range" = none) (mt : mg "tuple" = none) : FnOk P w K mg base CX0 (k + 2) f fd ["some"] (spNext K) := by
  have GM : FnOk P w K mg base CX0 (k + 1) g gd ["some", "place"] (spNm K) := ok_nm M
  refine F.ok scNext (fun vs H Q E h => ?_) (fun cdv A outer s H vs Q E hr h => ?_)
  · obtain ⟨a, ns, rfl, _⟩ := h
    rfl
  · obtain ⟨a, ns, rfl, hS, un, hl, q⟩ := h
    refine ⟨_, pss_one (ps_ret (pe_callTy call_tuple_of (by rfl) mt (by decide +kernel) (pa_cons (pe_lc (own := [("place", 1)]) (g := gName 1) (tt := tYes) rfl scNext.nd
      (pi_range1 (by rfl) mr (pa_cons (pe_callB call_len_seq (by rfl) ml PySem.boot_len (pa_cons (pv 0) pa_nil)) pa_nil)) (blkOk_by (N := ["some", "place"]) (sc := defScope sNext) (by decide +kernel))
      (fun _ _ _ _ _ => pg_name (i := 1) scNext.nd rfl (Or.inl rfl)) (fun _ _ _ _ _ => pts_nil)
      (fun _ _ _ _ _ => pe_call GM hr (by rfl) gM M.kp bM .nil pass0 (pa_cons (pv 0) (pa_cons (pv 1) pa_nil)))) pa_nil))), ?_⟩
    refine ⟨.ref a, rfl, a, _, rfl, .inr hS, _, rfl, ?_, ?_, fun D hD => ?_⟩
    · show -(2 ^ 62) ≤ (((vN ns).length : Nat) : Int)
      omega
    · show (((vN ns).length : Nat) : Int) < 2 ^ 62
      rw [vN_len]
      omega
    refine lc_range (fun i H' => H' = upd H D (.lst (vN ((M07.round ns).take i)))) (by rw [List.take_zero]; rfl) (fun i H' hi hp => ?_) (fun H' hp => ?_)
    · subst hp
      rw [Int.toNat_natCast, vN_len] at hi
      have hr' : i < (M07.round ns).length := by rw [M07.round_length]; exact hi
      have ge : (M07.round ns)[i]? = some (M07.round ns)[i] := List.getElem?_eq_getElem hr'
      refine ⟨rfl, .ref a, rfl, _, rfl, a, ns, _, i, _, rfl, by omega, sameT (sameN hD) hS, un, ge, vN ((M07.round ns).take i), upd_same, ?_, ?_⟩
      · rw [vN_len]
        exact line5 (small_take (by rw [M07.round_length]; exact hl))
      · rw [upd_upd, List.take_add_one, ge]
        exact congrArg (fun z => upd H D (.lst z)) (vN_app _ _).symm
    · subst hp
      rw [Int.toNat_natCast, vN_len, List.take_of_length_le (by rw [M07.round_length]; exact Nat.le_refl _)]
      refine ⟨D, _, rfl, .inl ⟨.inl (.inl upd_same), fun l hl' => ?_⟩⟩
      exact q _ _ (sameW (sameN hD) ((sameN hD).free hl')) upd_same
end
end C25

set_option Elab.async false
set_option linter.all false
set_option maxRecDepth 100000
namespace C25
open PySem PySem.Spec PyProof.Rows L2 Loc RZ
/-! ### the law's pot -/
section
variable {P : Program} {w : World} {K : PySem.W.Frag} {mg : Str → Option Value} {base : Heap}
theorem scPot : FnScope ["script", "k", "cell", "own"] ["script", "k"] (defScope sPot) := ⟨rfl, rfl, rfl, by decide +kernel, rfl, by decide +kernel, by decide +kernel⟩
theorem scTake : FnScope ["pot", "bound", "digit", "prime", "mixed"] ["pot", "bound"] (defScope sTake) := ⟨rfl, rfl, rfl, by decide +kernel, rfl, by decide +kernel, by decide +kernel⟩
theorem ok_pot {f : Addr} {fd : FuncData} {k : Nat} (F : Fun K "_law_pot" "_law_pot" sPot f fd) (ml : mg "len" = none) (ma : mg "abs" = none) (mi : mg "int" = none) :
    FnOk P w K mg base CX0 (k + 1) f fd ["script", "k"] (spPot K) := by
  refine F.ok scPot (fun vs H Q E h => ?_) (fun cdv A outer s H vs Q E hr h => ?_)
  · obtain ⟨a, ns, k, rfl, _⟩ := h
    rfl
  · obtain ⟨a, ns, k, rfl, hS, hl, hk, q⟩ := h
    refine ⟨_, pss_cons (ps_set (i := 2) scPot.nd rfl (.inl rfl) (pe_ifExp (pt_cmpR op_lt (pv 1) (pe_callB call_len_seq (by rfl) ml PySem.boot_len (pa_cons (pv 0) pa_nil)) (nomark _))
          (pe_ix ix_list (pv 0) (pv 1) (fun _ _ => rfl)) (pe_op op_add (pe_op op_mul pe_int (pv 1)) pe_int)))
      (pss_cons (ps_set (i := 3) scPot.nd rfl (.inl rfl) (pe_op op_mul
          (pe_op op_mod (pe_callB call_abs (by rfl) ma (by decide +kernel) (pa_cons (pv 2) pa_nil)) (pe_op op_powW (pe_op op_pow pe_int pe_int) pe_int))
          (pe_callTy call_int1 (by rfl) mi (by decide +kernel) (pa_cons (pe_cmpR op_ge (pe_callB call_abs (by rfl) ma (by decide +kernel) (pa_cons (pv 2) pa_nil)) (pe_op op_pow pe_int pe_int) (nomark _)) pa_nil))))
      (pss_one (ps_ret (pe_lst (pa_cons (pv 3) (pa_cons (pe_op op_mod (pe_op op_add (pe_op op_add (pe_op op_mul (pe_op op_mod (pv 2) pe_int) pe_int) (pe_op op_mul (pe_op op_mul pe_int (pv 1)) (pv 1))) pe_int) pe_int)
          (pa_cons pe_int pa_nil))))))), ?_⟩
    refine ⟨.int k, rfl, .ref a, rfl, a, ns.map V.int, rfl, .inl hS, k, (ns.map V.int).length, rfl, rfl, _, rfl, ?_⟩
    refine joinIf (fun v H' => (∃ c : Int, v = .int c) ∧ H' = H) ?key (fun e R hR => ?yes) (fun e R hR => ?no)
    case yes =>
      have e1 : (k : Int) < ((ns.map V.int).length : Int) := of_decide_eq_true e
      rw [List.length_map] at e1
      have hk2 : k < ns.length := by omega
      refine ⟨.ref a, rfl, .int k, rfl, a, _, k, .int ns[k], rfl, rfl, hS, atI_nat (by rw [List.getElem?_map, List.getElem?_eq_getElem hk2]; rfl), hR _ _ ⟨⟨_, rfl⟩, rfl⟩⟩
    case no =>
      exact ⟨.int k, rfl, 17, k, rfl, rfl, .inl ⟨by decide, by decide⟩, _, _, rfl, rfl, hR _ _ ⟨⟨_, rfl⟩, rfl⟩⟩
    case key =>
      rintro v H' ⟨⟨c, rfl⟩, rfl⟩
      refine ⟨.int c, rfl, c, rfl, 10, 60, rfl, rfl, ⟨by decide, by decide, by decide⟩, _, _, rfl, rfl, pow60, _, _, rfl, rfl, pow300', ?_⟩
      have m1 := mod_pos (a := if c < 0 then -c else c) pow300'
      have m2 := pow300
      refine ⟨.int c, rfl, c, rfl, 10, 18, rfl, rfl, ⟨by decide, by decide, by decide⟩, _, _, rfl, rfl, .inr ⟨_, rfl, _, _, rfl, rfl, .inr ?_, ?_⟩⟩
      · exact bit_small _
      have m3 := mul_bit ⟨m1.1, Int.lt_trans m1.2 m2⟩ (decide ((10 : Int) ^ (18 : Int).toNat ≤ if c < 0 then -c else c))
      have m4 := mod_pos (a := c) (show (0 : Int) < 2305843009213693951 by decide)
      refine ⟨_, rfl, .int c, rfl, c, _, rfl, rfl, (by show (0 : Int) < 2305843009213693951; decide), _, _, rfl, rfl, .inr ⟨by decide, by decide⟩, .int k, rfl, 7907, k, rfl, rfl, .inl ⟨by decide, by decide⟩, .int k, rfl, _, _, rfl, rfl, .inr ⟨by omega, by omega⟩,
        _, _, rfl, rfl, _, 41, rfl, rfl, _, _, rfl, rfl, (by show (0 : Int) < 2305843009213693921; decide), (show 3 ≤ sizeLine from by decide), fun p hp => ?_⟩
      have m5 := mod_pos (a := c % 2305843009213693951 * 69691 + 7907 * (k : Int) * (k : Int) + 41) (show (0 : Int) < 2305843009213693921 by decide)
      exact q p _ hp ⟨_, _, 0, rfl, m3.1, m3.2, m5.1, by omega, by decide, by decide⟩
theorem ok_take {f : Addr} {fd : FuncData} {k : Nat} (F : Fun K "_law_take" "_law_take" sTake f fd) : FnOk P w K mg base CX0 (k + 1) f fd ["pot", "bound"] spTake := by
  refine F.ok scTake (fun vs H Q E h => ?_) (fun cdv A outer s H vs Q E hr h => ?_)
  · obtain ⟨p, b, c, rfl, _⟩ := h
    rfl
  · obtain ⟨p, b, c, rfl, ⟨o, ep, own, mix, cnt, rfl, h1, h2, h3, h4, h5, h6⟩, hc, b1, b2, q⟩ := h
    refine ⟨_, pss_cons (ps_if (pt_cmpR op_gt (pe_ix ix_list (pv 0) pe_int (fun _ _ => rfl)) pe_int (nomark _))
        (pss_cons (ps_set (i := 2) scTake.nd rfl (.inl rfl) (pe_op op_mod (pe_ix ix_list (pv 0) pe_int (fun _ _ => rfl)) (pv 1)))
          (pss_cons (ps_asg (pe_op op_fdivW (pe_ix ix_list (pv 0) pe_int (fun _ _ => rfl)) (pv 1)) (pg_sub (pv 0) pe_int set_list)) (pss_one (ps_ret (pv 2))))) pss_nil)
      (pss_cons (ps_asg (pe_op op_add (pe_ix ix_list (pv 0) pe_int (fun _ _ => rfl)) pe_int) (pg_sub (pv 0) pe_int set_list))
      (pss_cons (ps_set (i := 3) scTake.nd rfl (.inl rfl) (pe_ix ix_list (pe_lst (pa_cons pe_int (pa_cons pe_int (pa_cons pe_int (pa_cons pe_int (pa_cons pe_int pa_nil)))))) (pe_op op_mod (pe_ix ix_list (pv 0) pe_int (fun _ _ => rfl)) pe_int) (fun _ _ => rfl)))
      (pss_cons (ps_set (i := 4) scTake.nd rfl (.inl rfl) (pe_op op_mod (pe_op op_pow (pe_op op_add (pe_op op_add (pe_ix ix_list (pv 0) pe_int (fun _ _ => rfl))
          (pe_op op_mul (pe_op op_mul pe_int (pe_ix ix_list (pv 0) pe_int (fun _ _ => rfl))) (pe_ix ix_list (pv 0) pe_int (fun _ _ => rfl)))) pe_int) pe_int) (pv 3)))
      (pss_one (ps_ret (pe_op op_mod (pe_op op_fdiv (pe_op op_mod (pe_op op_mul (pv 4) (pe_op op_add (pe_op op_mod (pv 4) pe_int) (pe_op op_mul pe_int (pe_ix ix_list (pv 0) pe_int (fun _ _ => rfl))))) pe_int) pe_int) (pv 1))))))), ?_⟩
    have hS : SqL K H p [.int own, .int mix, .int cnt] := .inl (.inl ep)
    refine ⟨.ref p, rfl, p, _, 0, .int own, rfl, rfl, hS, rfl, own, 0, rfl, rfl, _, rfl, ite2 (fun e => ?_) (fun e => ?_)⟩
    · have hpos : 0 < own := of_decide_eq_true e
      refine ⟨.ref p, rfl, p, _, 0, .int own, rfl, rfl, hS, rfl, .int b, rfl, own, b, rfl, rfl, b1, ?_⟩
      refine ⟨.ref p, rfl, p, _, 0, .int own, rfl, rfl, hS, rfl, .int b, rfl, own, b, rfl, rfl, ⟨b1, ?_⟩, .ref p, rfl, p, _, 0, 0, rfl, rfl, ep, rfl, ?_⟩
      · exact (wide_div (i := own) b1 (natAbs_lt (Int.le_of_lt b1) b2) (by decide) (by decide)).2
      · have dv := div_small h1 b1
        exact ⟨.int (own % b), rfl, q _ _ (mod_pos b1).1 (mod_pos b1).2 .set (.put ⟨own / b, mix, cnt, rfl, dv.1, Int.lt_of_le_of_lt dv.2 h2, h3, h4, h5, by omega⟩)⟩
    · refine ⟨.ref p, rfl, p, _, 2, .int cnt, rfl, rfl, hS, rfl, cnt, 1, rfl, rfl, .ref p, rfl, p, _, 2, 2, rfl, rfl, ep, rfl, ?_⟩
      refine ⟨(show 5 ≤ sizeLine from by decide), fun l hl => ?_⟩
      have np : p ≠ l := fun z => by
        rw [z, upd_same] at hl
        cases hl
      have hS1 : SqL K (upd (upd H p (.lst [.int own, .int mix, .int (cnt + 1)])) l (.lst [.int 2147483647, .int 2147483629, .int 2147483587, .int 2147483579, .int 2147483563])) p [.int own, .int mix, .int (cnt + 1)] :=
        .inl (.inl (by rw [upd_ne np, upd_same]))
      obtain ⟨pr, e1, e2, e3⟩ := prime_at (n := cnt + 1) (by omega)
      have bs := base_small h3 h4 (c := cnt + 1) (by omega) (by omega)
      refine ⟨.ref p, rfl, p, _, 2, .int (cnt + 1), rfl, rfl, hS1, rfl, cnt + 1, 5, rfl, rfl, (show (0 : Int) < 5 by decide), l, _, _, .int pr, rfl, rfl, .inl (.inl upd_same), e1, ?_⟩
      refine ⟨.ref p, rfl, p, _, 1, .int mix, rfl, rfl, hS1, rfl, .ref p, rfl, p, _, 2, .int (cnt + 1), rfl, rfl, hS1, rfl, 99991, cnt + 1, rfl, rfl, .inl ⟨by decide, by decide⟩,
        .ref p, rfl, p, _, 2, .int (cnt + 1), rfl, rfl, hS1, rfl, _, cnt + 1, rfl, rfl, .inr ⟨by omega, by omega⟩, mix, _, rfl, rfl, _, 29, rfl, rfl, _, 3, rfl, rfl, ⟨by decide, by decide, natAbs_lt bs.1 bs.2⟩, .int pr, rfl, _, pr, rfl, rfl, e2, ?_⟩
      have mx := mod_pos (a := (mix + 99991 * (cnt + 1) * (cnt + 1) + 29) ^ (3 : Int).toNat) e2
      have mx1 : -(2 ^ 64) < (mix + 99991 * (cnt + 1) * (cnt + 1) + 29) ^ (3 : Int).toNat % pr := Int.lt_of_lt_of_le (by decide) mx.1
      have mx2 : (mix + 99991 * (cnt + 1) * (cnt + 1) + 29) ^ (3 : Int).toNat % pr < 2 ^ 64 := Int.lt_trans mx.2 (Int.lt_trans e3 (by decide))
      refine ⟨_, rfl, _, rfl, _, 10007, rfl, rfl, (show (0 : Int) < 10007 by decide), .ref p, rfl, p, _, 2, .int (cnt + 1), rfl, rfl, hS1, rfl, 71, cnt + 1, rfl, rfl, .inl ⟨by decide, by decide⟩, _, _, rfl, rfl,
        _, _, rfl, rfl, .inl ⟨mx1, mx2⟩, _, _, rfl, rfl, (show (0 : Int) < 2305843009213693907 by decide), _, 103, rfl, rfl, ⟨by decide, by decide⟩, .int b, rfl, _, b, rfl, rfl, b1, ?_⟩
      exact q _ _ (mod_pos b1).1 (mod_pos b1).2 (But.trans .set (.new hl)) ⟨_, by rw [upd_ne np, upd_same]; rfl, own, mix, cnt + 1, rfl, h1, h2, h3, h4, by omega, by omega⟩
theorem scOf : FnScope ["pot", "some"] ["pot", "some"] (defScope sOf) := ⟨rfl, rfl, rfl, by decide +kernel, rfl, by decide +kernel, by decide +kernel⟩
theorem ok_of {f g : Addr} {fd gd : FuncData} {k : Nat} (F : Fun K "_law_of" "_law_of" sOf f fd) (T : Fun K "_law_take" "_law_take" sTake g gd) (gT : mg "_law_take" = some (.ref g)) (bT : Binds K gd ["pot", "bound"] [])
    (ml : mg "len" = none) : FnOk P w K mg base CX0 (k + 2) f fd ["pot", "some"] spOf := by
  have GT : FnOk P w K mg base CX0 (k + 1) g gd ["pot", "bound"] spTake := ok_take T
  refine F.ok scOf (fun vs H Q E h => ?_) (fun cdv A outer s H vs Q E hr h => ?_)
  · obtain ⟨p, a, xs, c, rfl, _⟩ := h
    rfl
  · obtain ⟨p, a, xs, c, rfl, hp, hc, ne, ha, h0, hl, q⟩ := h
    refine ⟨_, pss_one (ps_ret (pe_ix ix_list (pv 1) (pe_call GT hr (by rfl) gT T.kp bT .nil pass0 (pa_cons (pv 0) (pa_cons (pe_callB call_len_seq (by rfl) ml PySem.boot_len (pa_cons (pv 1) pa_nil)) pa_nil))) (fun _ _ => rfl))), ?_⟩
    have hS : SqL K H a xs := .inl (.inl ha)
    have hx : 0 < xs.length := List.length_pos_iff.mpr h0
    refine ⟨.ref a, rfl, .ref p, rfl, .ref a, rfl, a, xs, rfl, .inl hS, p, xs.length, c, rfl, hp, hc, by omega, small_pow hl, fun d H' d0 d1 bt pt => ?_⟩
    obtain ⟨j, rfl⟩ := Int.eq_ofNat_of_zero_le d0
    have hj : j < xs.length := by omega
    have g : xs[j]? = some xs[j] := List.getElem?_eq_getElem hj
    exact ⟨a, xs, j, xs[j], rfl, rfl, bt.sql ne hS, atI_nat g, q j _ H' g bt pt⟩
end
/-! ### drawn sequences -/
section
variable {P : Program} {w : World} {K : PySem.W.Frag} {mg : Str → Option Value} {base : Heap}
theorem scSeq : FnScope ["pot", "most", "way", "many", "found", "kinds", "step"] ["pot", "most"] (defScope sSeq) := ⟨rfl, rfl, rfl, by decide +kernel, rfl, by decide +kernel, by decide +kernel⟩
/-- elements -/
def EL (ns : List Nd) : Prop := ∀ n ∈ ns, ∃ k : Nat, n = .el k ∧ k ≤ 10 ^ 9
theorem EL.app {ns : List Nd} {k : Nat} (h : EL ns) (l : k ≤ 10 ^ 9) : EL (ns ++ [.el k]) := fun n hn => by
  rcases List.mem_append.mp hn with hn | hn
  · exact h n hn
  · exact ⟨k, List.mem_singleton.mp hn, l⟩
theorem EL.ok {ns : List Nd} (h : EL ns) : OkAll ns 0 := OkAll.of fun n hn => by
  obtain ⟨k, rfl, l⟩ := h n hn
  unfold Ok
  exact ⟨rfl, l⟩
theorem ndsV_els {H H' : Hp} : ∀ {ns : List Nd} {vs : List V}, EL ns → NdsV K H vs ns → NdsV K H' vs ns
  | [], vs, _, h => by rw [h.inv0]; exact .nil
  | a :: r, vs, e, h => by
    obtain ⟨v, q, rfl, k1, k2⟩ := h.inv
    obtain ⟨k, rfl, _⟩ := e a List.mem_cons_self
    rw [k1.el]
    exact .cons (.ofEl k) (ndsV_els (fun n hn => e n (List.mem_cons_of_mem _ hn)) k2)
def spSeq (K : PySem.W.Frag) : Sp := fun vs H Q _ => ∃ (p : Addr) (most c : Nat), vs = [.ref p, .int most] ∧ most ≤ 200 ∧ Pot H p c ∧ c < 800000 ∧
  ∀ H' a xs ns, But p H H' → H a = none → H' a = some (.lst xs) → NdsV K H' xs ns → EL ns → ns.length ≤ most → Pot H' p (c + 500) → Q (.ref a) H'
theorem ok_seq {f fT fO : Addr} {fd dT dO : FuncData} (F : Fun K "_law_sequence" "_law_sequence" sSeq f fd) (T : Fun K "_law_take" "_law_take" sTake fT dT) (gT : mg "_law_take" = some (.ref fT)) (bT : Binds K dT ["pot", "bound"] [])
    (O : Fun K "_law_of" "_law_of" sOf fO dO) (gO : mg "_law_of" = some (.ref fO)) (bO : Binds K dO ["pot", "some"] []) (ml : mg "len" = none) : FnOk P w K mg base CX0 3 f fd ["pot", "most"] (spSeq K) := by
  have GT : FnOk P w K mg base CX0 2 fT dT ["pot", "bound"] spTake := ok_take T
  have GO : FnOk P w K mg base CX0 2 fO dO ["pot", "some"] spOf := ok_of O T gT bT ml
  refine F.ok scSeq (fun vs H Q E h => ?_) (fun cdv A outer s H vs Q E hr h => ?_)
  · obtain ⟨p, most, c, rfl, _⟩ := h
    rfl
  · obtain ⟨p, most, c, rfl, hm, hp, hc, q⟩ := h
    refine ⟨_, pss_cons (ps_par3 (i := 2) (j := 3) (l := 4) (by rfl) scSeq.nd rfl rfl rfl (by decide) (by decide) (by decide) rfl rfl rfl
          (pa_cons (pe_call GT hr (by rfl) gT T.kp bT .nil pass0 (pa_cons (pv 0) (pa_cons pe_int pa_nil))) (pa_cons (pe_call GT hr (by rfl) gT T.kp bT .nil pass0 (pa_cons (pv 0) (pa_cons (pe_op op_add (pv 1) pe_int) pa_nil))) (pa_cons (pe_lst pa_nil) pa_nil))) (by rfl))
      (pss_cons (ps_par (i := 5) (j := 6) (by rfl) scSeq.nd rfl rfl (by decide) rfl rfl
          (pa_cons (pe_call GO hr (by rfl) gO O.kp bO .nil pass0 (pa_cons (pv 0) (pa_cons (pe_lst (pa_cons pe_int (pa_cons pe_int (pa_cons pe_int (pa_cons pe_int (pa_cons pe_int pa_nil)))))) pa_nil)))
            (pa_cons (pe_op op_add pe_int (pe_call GT hr (by rfl) gT T.kp bT .nil pass0 (pa_cons (pv 0) (pa_cons pe_int pa_nil)))) pa_nil)) (by rfl))
      (pss_cons (ps_while PassesOwn.never (pt_cmpR op_lt (pe_callB call_len_seq (by rfl) ml PySem.boot_len (pa_cons (pv 4) pa_nil)) (pv 3) (nomark _))
        (pss_one (ps_if (PW.pt (pw_and (pt_cmpR op_eq (pv 2) pe_int (nomark _)) (pw_and1 (pt_cmpR op_ge (pe_callB call_len_seq (by rfl) ml PySem.boot_len (pa_cons (pv 4) pa_nil)) (pv 6) (nomark _)))))
          (pss_one (ps_expr (pe_bm PySem.F.plainAttrs_list PySem.F.slot_list_append PySem.F.type_list_append mt_append (pv 4) (pa_cons (pe_ix ix_list (pv 4) (pe_op op_sub (pe_callB call_len_seq (by rfl) ml PySem.boot_len (pa_cons (pv 4) pa_nil)) (pv 6)) (fun _ _ => rfl)) pa_nil))))
          (pss_one (ps_if (pt_cmpR op_eq (pv 2) pe_int (nomark _))
            (pss_one (ps_expr (pe_bm PySem.F.plainAttrs_list PySem.F.slot_list_append PySem.F.type_list_append mt_append (pv 4) (pa_cons (pe_op op_mod (pe_op op_mul (pe_callB call_len_seq (by rfl) ml PySem.boot_len (pa_cons (pv 4) pa_nil)) (pv 6)) pe_int) pa_nil))))
            (pss_one (ps_if (pt_cmpR op_eq (pv 2) pe_int (nomark _))
              (pss_one (ps_expr (pe_bm PySem.F.plainAttrs_list PySem.F.slot_list_append PySem.F.type_list_append mt_append (pv 4) (pa_cons (pe_call GO hr (by rfl) gO O.kp bO .nil pass0 (pa_cons (pv 0) (pa_cons (pe_lst (pa_cons pe_int (pa_cons pe_int (pa_cons pe_int (pa_cons pe_int
                (pa_cons (pe_op op_pow pe_int pe_int) (pa_cons (pe_call GT hr (by rfl) gT T.kp bT .nil pass0 (pa_cons (pv 0) (pa_cons (pe_op op_add (pe_op op_pow pe_int pe_int) pe_int) pa_nil))) pa_nil))))))) pa_nil))) pa_nil))))
              (pss_one (ps_if (PW.pt (pw_and (pt_cmpR op_eq (pv 2) pe_int (nomark _)) (pw_and1 (pt_cmpR (op_neD hr.units) (pv 4) (pe_lst pa_nil) (nomark _)))))
                (pss_one (ps_expr (pe_bm PySem.F.plainAttrs_list PySem.F.slot_list_append PySem.F.type_list_append mt_append (pv 4) (pa_cons (pe_ifExp (pt_cmpR op_gt (pe_call GT hr (by rfl) gT T.kp bT .nil pass0 (pa_cons (pv 0) (pa_cons pe_int pa_nil))) pe_int (nomark _))
                  (pe_ix ix_list (pv 4) (pe_un un_neg pe_int) (fun _ _ => rfl)) (pe_call GT hr (by rfl) gT T.kp bT .nil pass0 (pa_cons (pv 0) (pa_cons (pv 5) pa_nil)))) pa_nil))))
                (pss_one (ps_expr (pe_bm PySem.F.plainAttrs_list PySem.F.slot_list_append PySem.F.type_list_append mt_append (pv 4) (pa_cons (pe_call GT hr (by rfl) gT T.kp bT .nil pass0 (pa_cons (pv 0) (pa_cons (pv 5) pa_nil))) pa_nil)))))))))))))
      (pss_one (ps_ret (pv 4))))), ?_⟩
    refine ⟨.ref p, rfl, p, 6, c, rfl, hp, by omega, by decide, by decide +kernel, fun way H1 y0 y1 b1 p1 => ?_⟩
    refine ⟨.ref p, rfl, _, rfl, _, 1, rfl, rfl, p, _, _, rfl, p1, by omega, by omega, ?_, fun many H2 z0 z1 b2 p2 => ?_⟩
    · exact Int.lt_of_le_of_lt (show ((most : Nat) : Int) + 1 ≤ 201 by omega) (by decide +kernel)
    refine ⟨(show 0 ≤ sizeLine from by decide), fun FF nF => ⟨_, _, _, rfl, ?_⟩⟩
    refine ⟨.ref p, rfl, (show 5 ≤ sizeLine from by decide), fun l5 nl5 => ?_⟩
    have p3 := p2.new (o := .lst []) nF
    have nFp : FF ≠ p := p2.ne nF
    refine ⟨p, l5, _, _, rfl, p3.new nl5, by omega, p3.ne nl5, upd_same, List.cons_ne_nil _ _, (show 5 ≤ 1000 from by decide), fun j x H3 hj b3 p4 => ?_⟩
    obtain ⟨kn, rfl, kn1, kn2⟩ : ∃ n : Nat, x = .int n ∧ 1 ≤ n ∧ n ≤ 10 := by
      have := List.mem_of_getElem? hj
      simp only [List.mem_cons, List.not_mem_nil, or_false] at this
      rcases this with rfl | rfl | rfl | rfl | rfl
      · exact ⟨2, rfl, by decide, by decide⟩
      · exact ⟨2, rfl, by decide, by decide⟩
      · exact ⟨3, rfl, by decide, by decide⟩
      · exact ⟨4, rfl, by decide, by decide⟩
      · exact ⟨10, rfl, by decide, by decide⟩
    refine ⟨.ref p, rfl, p, 7, _, rfl, p4, by omega, by decide, by decide +kernel, fun d H4 d0 d1 b4 p5 => ⟨1, d, rfl, rfl, _, _, rfl, ?_⟩⟩
    have d1' : d < 7 := d1
    have bA : But p H H4 := ((b1.trans b2).trans (.new nF)).trans ((But.new nl5).trans (b3.trans b4))
    have gF : H4 FF = some (.lst []) := (b3.trans b4).at nFp (sameN nl5 _ _ upd_same)
    have nFH : H FF = none := (b1.trans b2).freeP p2 nF
    have z1' : many < ((most : Nat) : Int) + 1 := z1
    obtain ⟨mn, rfl⟩ : ∃ mn : Nat, many = mn := ⟨many.toNat, by omega⟩
    refine ⟨fun m' σ H' => ∃ xs ns, m' = mn - ns.length ∧ ns.length ≤ mn ∧ σ = [some (.ref p), some (.int most), some (.int way), some (.int (mn : Nat)), some (.ref FF), some (.int (kn : Nat)), some (.int (1 + d))] ∧ H' FF = some (.lst xs) ∧ NdsV K H' xs ns ∧ EL ns ∧ But p H H' ∧ Pot H' p (c + 5 + 2 * ns.length),
      ⟨mn, [], [], rfl, Nat.zero_le _, rfl, gF, .nil, (fun n hn => nomatch hn), bA, p5.le (by omega)⟩, ?_⟩
    rintro m' σ H5 ⟨xs, ns, rfl, hle, rfl, e1, e2, e3, e5, e6⟩
    have hlx := e2.len
    refine ⟨.ref FF, rfl, FF, xs, rfl, .inl (.inl (.inl e1)), _, rfl, _, _, rfl, rfl, _, rfl, ite2 (fun e => ?_) (fun e => ?_)⟩
    · have hlt : ns.length < mn := by
        have : ((xs.length : Nat) : Int) < (mn : Int) := of_decide_eq_true e
        omega
      refine ⟨fun σ' H' => ∃ xs ns', ns'.length = ns.length + 1 ∧ σ' = [some (.ref p), some (.int most), some (.int way), some (.int (mn : Nat)), some (.ref FF), some (.int (kn : Nat)), some (.int (1 + d))] ∧ H' FF = some (.lst xs) ∧ NdsV K H' xs ns' ∧ EL ns' ∧ But p H H' ∧ Pot H' p (c + 5 + 2 * ns'.length), fun σ' H' hN => ?_, ?_⟩
      · obtain ⟨x2, n2, k1, k2, k3⟩ := hN
        exact ⟨mn - n2.length, by omega, x2, n2, rfl, by omega, k2, k3⟩
      have lx : xs.length < sizeLine := line5 (by omega)
      have fin : ∀ (H6 : Hp) (v : V) (k : Nat), v = .int k → k ≤ 10 ^ 9 → But p H5 H6 → Pot H6 p (c + 5 + 2 * ns.length + 2) → ∃ xs' ns', ns'.length = ns.length + 1 ∧ [some (V.ref p), some (.int most), some (.int way), some (.int (mn : Nat)), some (.ref FF), some (.int (kn : Nat)), some (.int (1 + d))] = [some (V.ref p), some (.int most), some (.int way), some (.int (mn : Nat)), some (.ref FF), some (.int (kn : Nat)), some (.int (1 + d))] ∧
          (upd H6 FF (.lst (xs ++ [v]))) FF = some (.lst xs') ∧ NdsV K (upd H6 FF (.lst (xs ++ [v]))) xs' ns' ∧ EL ns' ∧ But p H (upd H6 FF (.lst (xs ++ [v]))) ∧ Pot (upd H6 FF (.lst (xs ++ [v]))) p (c + 5 + 2 * ns'.length) := fun H6 v k ev hk b6 p6 => by
        refine ⟨xs ++ [v], ns ++ [.el k], by rw [List.length_append]; rfl, rfl, upd_same, (ndsV_els e3 e2).app (.one (by rw [ev]; exact .ofEl k)), e3.app hk, (e5.trans b6).wr nFH, ?_⟩
        refine (p6.oth nFp.symm).le ?_
        rw [List.length_append]
        simp
        omega
      have at5 : ∀ H6, But p H5 H6 → H6 FF = some (.lst xs) := fun H6 b6 => b6.at nFp e1
      refine ifs_any (fun b H' => H5 = H' ∧ (b = true → 1 + d ≤ ns.length)) (fun b H6 hS => ?_) (fun R hR => ?_)
      · obtain ⟨rfl, hb⟩ := hS
        cases b with
        | true =>
          have hb := hb rfl
          obtain ⟨n, hn⟩ := get_of (l := ns) (i := ns.length - (1 + d).toNat) (by omega)
          obtain ⟨u, eu, ku⟩ := e2.at hn
          obtain ⟨k, rfl, hk⟩ := e3 n (List.mem_of_getElem? hn)
          refine ⟨.ref FF, rfl, .inl ⟨rfl, _, .inl (.inl e1)⟩, .ref FF, rfl, .ref FF, rfl, FF, xs, rfl, .inl (.inl (.inl e1)), _, rfl, _, _, rfl, rfl, FF, xs, ((ns.length - (1 + d).toNat : Nat) : Int), u, rfl, int_congr (by omega), .inl (.inl e1), atI_nat eu, FF, _, _, rfl, rfl, e1, lx, fin H5 u k ku.el hk (.refl p H5) (e6.le (by omega))⟩
        | false =>
          refine ⟨_, rfl, rfl, _, rfl, ite2 (fun e => ?_) (fun e => ?_)⟩
          · have hb0 : (0 : Int) ≤ ((xs.length : Nat) : Int) * (1 + d) := Int.mul_nonneg (by omega) (by omega)
            refine ⟨.ref FF, rfl, .inl ⟨rfl, _, .inl (.inl e1)⟩, .ref FF, rfl, FF, xs, rfl, .inl (.inl (.inl e1)), _, rfl, _, _, rfl, rfl, .inl ⟨?_, ?_⟩, _, 1000000007, rfl, rfl, (show (0 : Int) < 1000000007 by decide), FF, _, _, rfl, rfl, e1, lx, fin H5 _ ((((xs.length : Nat) : Int) * (1 + d)) % 1000000007).toNat (int_congr ?_) ?_ (.refl p H5) (e6.le (by omega))⟩
            · omega
            · omega
            · exact (Int.toNat_of_nonneg (Int.emod_nonneg _ (by decide))).symm
            · have h2 : ((xs.length : Nat) : Int) * (1 + d) ≤ 200 * 7 := Int.mul_le_mul (by omega) (by omega) (by omega) (by decide)
              rw [Int.emod_eq_of_lt hb0 (by omega)]
              omega
          · refine ⟨_, rfl, rfl, _, rfl, ite2 (fun e => ?_) (fun e => ?_)⟩
            · refine ⟨.ref FF, rfl, .inl ⟨rfl, _, .inl (.inl e1)⟩, .ref p, rfl, 10, 9, rfl, rfl, ⟨by decide, by decide, by decide⟩, .ref p, rfl, 10, 9, rfl, rfl, ⟨by decide, by decide, by decide⟩, _, 1, rfl, rfl, p, _, _, rfl, e6, by omega, (by decide), (by decide +kernel), fun d5 H7 d50 d51 b7 p7 => ⟨(show 6 ≤ sizeLine from by decide), fun l6 n6 =>
                ⟨p, l6, _, _, rfl, p7.new n6, by omega, p7.ne n6, upd_same, List.cons_ne_nil _ _, (show 6 ≤ 1000 from by decide), fun j x H8 hj b8 p8 => ?_⟩⟩⟩
              have d51' : d5 < 1000000001 := d51
              have sm2 : Smalls (10 ^ 9) [V.int 0, .int 1, .int 12, .int 120, .int ((10 : Int) ^ (9 : Int).toNat), .int d5] :=
                .cons (n := 0) rfl (by decide) (.cons (n := 1) rfl (by decide) (.cons (n := 12) rfl (by decide) (.cons (n := 120) rfl (by decide) (.cons (n := 10 ^ 9) rfl (by decide) (.cons (n := d5.toNat) (int_congr (by omega)) (by omega) .nil)))))
              obtain ⟨k, rfl, hk⟩ := sm2.at hj
              have b58 := (b7.trans (.new n6)).trans b8
              exact ⟨FF, _, _, rfl, rfl, at5 _ b58, lx, fin H8 _ k rfl hk b58 (p8.le (by omega))⟩
            · refine ifs_any (fun b H' => Same H5 H' ∧ (b = true → ns ≠ [])) (fun b H6 hS => ?_) (fun R hR => ?_)
              · obtain ⟨s6, hb⟩ := hS
                have f6 := s6 _ _ e1
                have p6 : Pot H6 p (c + 5 + 2 * ns.length) := by
                  obtain ⟨o, ho, po⟩ := e6
                  exact ⟨o, s6 _ _ ho, po⟩
                have b56 : But p H5 H6 := Same.but s6
                cases b with
                | true =>
                  have hb := hb rfl
                  refine ⟨.ref FF, rfl, .inl ⟨rfl, _, .inl (.inl f6)⟩, .ref p, rfl, p, 3, _, rfl, p6, by omega, by decide, by decide +kernel, fun d6 H7 _ _ b7 p7 => ⟨d6, 0, rfl, rfl, _, rfl, ite2 (fun e => ?_) (fun e => ?_)⟩⟩
                  · rcases List.eq_nil_or_concat ns with rfl | ⟨init, z, rfl⟩
                    · exact absurd rfl hb
                    · rw [List.concat_eq_append] at *
                      obtain ⟨u, eu, ku⟩ := e2.last
                      obtain ⟨k, rfl, hk⟩ := e3 z (by simp)
                      have b57 := b56.trans b7
                      have f7 := at5 _ b57
                      exact ⟨.ref FF, rfl, 1, rfl, FF, xs, -1, u, rfl, rfl, .inl (.inl f7), eu, FF, _, _, rfl, rfl, f7, lx, fin H7 u k ku.el hk b57 (p7.le (by omega))⟩
                  · refine ⟨.ref p, rfl, _, rfl, p, (kn : Nat), _, rfl, p7, by omega, by omega, Int.lt_of_le_of_lt (show ((kn : Nat) : Int) ≤ 10 by omega) (by decide +kernel), fun d8 H8 d80 d81 b8 p8 => ?_⟩
                    have b58 := (b56.trans b7).trans b8
                    exact ⟨FF, _, _, rfl, rfl, at5 _ b58, lx, fin H8 _ d8.toNat (int_congr (by omega)) (by omega) b58 (p8.le (by omega))⟩
                | false =>
                  refine ⟨.ref FF, rfl, .inl ⟨rfl, _, .inl (.inl f6)⟩, .ref p, rfl, _, rfl, p, (kn : Nat), _, rfl, p6, by omega, by omega, Int.lt_of_le_of_lt (show ((kn : Nat) : Int) ≤ 10 by omega) (by decide +kernel), fun d8 H8 d80 d81 b8 p8 => ?_⟩
                  have b58 := b56.trans b8
                  exact ⟨FF, _, _, rfl, rfl, at5 _ b58, lx, fin H8 _ d8.toNat (int_congr (by omega)) (by omega) b58 (p8.le (by omega))⟩
              · refine ⟨_, rfl, rfl, _, rfl, ite2 (fun e => ?_) (fun e => hR _ _ ⟨Same.refl H5, fun z => nomatch z⟩)⟩
                refine ⟨.ref FF, rfl, (show 0 ≤ sizeLine from by decide), fun l9 hl9 => ⟨_, _, .lst (.inl (.inl (sameN hl9 _ _ e1))) (e2.up (.of (sameN hl9))), .lst (.inl (.inl upd_same)) .nil, (shaped_all e3.ok (by decide)).1, shaped_nil, _, rfl, hR _ _ ⟨sameN hl9, fun z => ?_⟩⟩⟩
                rintro rfl
                rw [eqv_emptyN] at z
                cases z
      · refine ⟨_, rfl, rfl, _, rfl, ite2 (fun e => ?_) (fun e => hR _ _ ⟨rfl, fun z => nomatch z⟩)⟩
        exact ⟨.ref FF, rfl, FF, xs, rfl, .inl (.inl (.inl e1)), _, rfl, _, _, rfl, rfl, _, rfl, hR _ _ ⟨rfl, fun z => by
          have := of_decide_eq_true z
          omega⟩⟩
    · exact ⟨_, rfl, q H5 FF xs ns e5 nFH e1 e2 e3 (by omega) (e6.le (by omega))⟩
end
theorem grp_more (ns : List Nd) (i : Nat) (n : Nd) (h : ns[i]? = some n) : grp (ns.take (i + 1)) = stepG (grp (ns.take i)) n := by
  rw [take_more h, grp_app]
section
variable {P : Program} {w : World} {K : PySem.W.Frag} {mg : Str → Option Value} {base : Heap}
theorem scLRuns : FnScope ["some", "found", "one"] ["some"] (defScope sLRuns) := ⟨rfl, rfl, rfl, by decide +kernel, rfl, by decide +kernel, by decide +kernel⟩
def spLRuns (K : PySem.W.Frag) : Sp := fun vs H Q _ => ∃ (a : Addr) (us : List V) (ns : List Nd) (l : Nat), vs = [.ref a] ∧ SqL K H a us ∧ NdsV K H us ns ∧ OkAll ns l ∧ l ≤ 20 ∧ ns.length ≤ 100000 ∧
  ∀ H' p ws, Same H H' → H' p = some (.tup ws) → PrsV K H' ws (grp ns) → Q (.ref p) H'
theorem ok_lruns {f : Addr} {fd : FuncData} {k : Nat} (F : Fun K "_law_runs" "_law_runs" sLRuns f fd) (mt : mg "tuple" = none) : FnOk P w K mg base CX0 (k + 1) f fd ["some"] (spLRuns K) := by
  refine F.ok scLRuns (fun vs H Q E h => ?_) (fun cdv A outer s H vs Q E hr h => ?_)
  · obtain ⟨a, us, ns, l, rfl, _⟩ := h
    rfl
  · obtain ⟨a, us, ns, l, rfl, hS, hn, ok, l20, hlen, q⟩ := h
    refine ⟨_, pss_cons (ps_set (i := 1) scLRuns.nd rfl (.inl rfl) (pe_lst pa_nil))
      (pss_cons (ps_for PassesOwn.never rfl (pi_list (pv 0)) (pg_name (i := 2) scLRuns.nd rfl (.inl rfl))
        (pss_one (ps_if (PW.pt (pw_and (pt_cmpR (op_neD hr.units) (pv 1) (pe_lst pa_nil) (nomark _)) (pw_and1 (pt_cmpR (op_eqD hr.units) (pe_ix ix_tup (pe_ix ix_list (pv 1) (pe_un un_neg pe_int) (fun _ _ => rfl)) pe_int (fun _ _ => rfl)) (pv 2) (nomark _)))))
          (pss_one (ps_asg (pe_tup (pa_cons (pv 2) (pa_cons (pe_op op_add (pe_ix ix_tup (pe_ix ix_list (pv 1) (pe_un un_neg pe_int) (fun _ _ => rfl)) pe_int (fun _ _ => rfl)) pe_int) pa_nil))) (pg_sub (pv 1) (pe_un un_neg pe_int) set_list)))
          (pss_one (ps_expr (pe_bm PySem.F.plainAttrs_list PySem.F.slot_list_append PySem.F.type_list_append mt_append (pv 1) (pa_cons (pe_tup (pa_cons (pv 2) (pa_cons pe_int pa_nil))) pa_nil)))))))
      (pss_one (ps_ret (pe_callTy call_tuple_of (by rfl) mt PyProof.Rows.boot_tuple (pa_cons (pv 1) pa_nil))))), ?_⟩
    have hlu := hn.len
    refine ⟨(show 0 ≤ sizeLine from by decide), fun F0 hF => ?_⟩
    have s0 := sameN (o := .lst []) hF
    refine ⟨.ref a, rfl, a, rfl, ⟨us, s0.seq hS⟩, ?_⟩
    refine for_list (xs := us) (fun i σ H' => ∃ ws y2, σ = [some (.ref a), some (.ref F0), y2] ∧ H' F0 = some (.lst ws) ∧ PrsV K H' ws (grp (ns.take i)) ∧ Same H H') ⟨[], none, rfl, upd_same, ?_, s0⟩ (fun i σ H' _ hp => ?_) (fun i x σ H1 hx hp => ?_) (fun σ H' hp => ?_)
    · rw [List.take_zero]
      exact .nil
    · obtain ⟨_, _, _, _, _, e⟩ := hp
      exact e.seq hS
    · obtain ⟨ws, y2, rfl, e1, e2, s1⟩ := hp
      obtain ⟨n, hni, kn⟩ := (hn.up (.of s1)).get hx
      have okn := ok.mem n (List.mem_of_getElem? hni)
      have okg : ∀ p ∈ grp (ns.take i), Ok p.1 l := fun p hp => ok.mem _ (List.mem_of_mem_take (grp_foot _ p hp).1)
      have lw : ws.length < sizeLine := by
        rw [DpAll.len e2, List.length_map]
        have g1 := grp_len (ns.take i)
        rw [List.length_take] at g1
        exact line5 (by omega)
      have gm := grp_more ns i n hni
      refine ifs_any (fun b H' => Same H1 H' ∧ (b = true → ∃ r c, grp (ns.take i) = r ++ [(n, c)]) ∧ (b = false → ∀ m c, (grp (ns.take i)).getLast? = some (m, c) → m ≠ n)) (fun b H2 hS2 => ?_) (fun R hR => ?_)
      · obtain ⟨s2, nb1, nb2⟩ := hS2
        have f2 := s2 _ _ e1
        have d2 := e2.up (.of s2)
        cases b with
        | true =>
          obtain ⟨r, c, er⟩ := nb1 rfl
          rw [er] at d2
          obtain ⟨w1, ra, u, rfl, k1, t1, t2⟩ := d2.split
          · skip
            refine ⟨x, rfl, .ref F0, rfl, 1, rfl, F0, _, -1, .ref ra, rfl, rfl, .inl (.inl f2), atI_last _ _, ra, _, 1, .int c, rfl, rfl, t1, rfl, c, 1, rfl, rfl, (show 2 ≤ sizeLine from by decide), fun t ht => ?_⟩
            have s3 := sameN (o := .tup [x, .int ((c : Int) + 1)]) ht
            have f3 := s3 _ _ f2
            refine ⟨.ref F0, rfl, 1, rfl, F0, w1 ++ [.ref ra], -1, w1.length, rfl, rfl, f3, ?_, w1 ++ [.ref t], _, rfl, ?_, ?_, sameW (s1.trans (s2.trans s3)) hF⟩
            · rw [List.length_append]
              exact ixN_last
            · rw [upd_same, List.set_append_right _ _ (Nat.le_refl _)]
              simp
            · rw [gm, er, stepG_eq]
              have tt : Tups K (upd H2 t (.tup [x, .int ((c : Int) + 1)])) (upd (upd H2 t (.tup [x, .int ((c : Int) + 1)])) F0 (.lst ((w1 ++ [V.ref ra]).set w1.length (V.ref t)))) := (But.set (p := F0)).tups f3
              refine PrsV.app (PrsV.up tt (PrsV.up (.of s3) k1)) (PrsV.one (p := (n, c + 1)) (tt _ _ (.inl (.inl ?_))) (((kn.up (.of s2)).up (.of s3)).up tt))
              rw [upd_same]
              exact congrArg (fun z => some (HO.tup [x, z])) (int_congr (by omega))
        | false =>
          have ne := stepG_ne (nb2 rfl)
          refine ⟨.ref F0, rfl, .inl ⟨rfl, _, .inl (.inl f2)⟩, x, rfl, (show 2 ≤ sizeLine from by decide), fun t ht => ?_⟩
          have s3 := sameN (o := .tup [x, .int 1]) ht
          have f3 := s3 _ _ f2
          refine ⟨F0, _, _, rfl, rfl, f3, lw, ws ++ [.ref t], _, rfl, upd_same, ?_, sameW (s1.trans (s2.trans s3)) hF⟩
          rw [gm, ne]
          have tt : Tups K (upd H2 t (.tup [x, .int 1])) (upd (upd H2 t (.tup [x, .int 1])) F0 (.lst (ws ++ [.ref t]))) := (But.set (p := F0)).tups f3
          exact PrsV.app (PrsV.up tt (PrsV.up (.of s3) d2)) (PrsV.one (p := (n, 1)) (tt _ _ (.inl (.inl upd_same))) (((kn.up (.of s2)).up (.of s3)).up tt))
      · refine ⟨.ref F0, rfl, (show 0 ≤ sizeLine from by decide), fun l9 hl9 => ⟨_, _, .lst (.inl (.inl ?_)) (e2.up (.of (sameN hl9))), .lst (.inl (.inl upd_same)) .nil, shaped_prs okg l20, shaped_nil, _, rfl, ?_⟩⟩
        · rw [upd_ne (ne_of_none e1 hl9)]
          exact e1
        · rw [eqv_emptyP]
          have s9 := sameN (o := .lst []) hl9
          rcases List.eq_nil_or_concat (grp (ns.take i)) with z | ⟨init, ⟨m, c⟩, z⟩
          · rw [z]
            exact hR _ _ ⟨s9, (fun z => nomatch z), fun _ m c hm => by rw [z] at hm; cases hm⟩
          · rw [List.concat_eq_append] at z
            have d9 := e2.up (.of s9)
            rw [z] at d9
            obtain ⟨w1, ra, u, rfl, k1, t1, t2⟩ := d9.split
            · skip
              have okm : Ok m l := okg (m, c) (by rw [z]; simp)
              have z0 : (grp (ns.take i)).isEmpty = false := by rw [z]; simp
              rw [z0]
              refine ⟨.ref F0, rfl, 1, rfl, F0, _, -1, .ref ra, rfl, rfl, .inl (.inl (s9 _ _ e1)), atI_last _ _, ra, _, 0, u, rfl, rfl, t1, rfl, x, rfl, _, _, t2, kn.up (.of s9), shaped_dat okm l20, shaped_dat okn l20, _, rfl, hR _ _ ⟨s9, fun eb => ?_, fun eb m' c' hm => ?_⟩⟩
              · have : m = n := (eqv_dat _ _).mp eb
                exact ⟨init, c, by rw [z, this]⟩
              · rw [z, List.getLast?_append] at hm
                have : m = m' ∧ c = c' := by simpa using hm
                rw [← this.1]
                intro eq
                rw [eqv_yes eq] at eb
                cases eb
    · obtain ⟨ws, y2, rfl, e1, e2, s1⟩ := hp
      rw [hlu, List.take_length] at e2
      exact ⟨.ref F0, rfl, F0, ws, rfl, .inl ⟨.inl (.inl e1), fun t nt => q _ t ws (s1.trans (sameN nt)) upd_same (PrsV.up (.of (sameN nt)) e2)⟩⟩
end
/-! ### runs of any width -/
section
variable {P : Program} {w : World} {K : PySem.W.Frag} {mg : Str → Option Value} {base : Heap}
/-- pairs of runs -/
def Giv (gs : List (Nd × Nat)) : Prop := (∀ p ∈ gs, (∃ k : Nat, p.1 = .el k ∧ k ≤ 10 ^ 9) ∧ 1 ≤ p.2 ∧ p.2 ≤ 10 ^ 18) ∧ ∀ (i : Nat) p q, gs[i]? = some p → gs[i + 1]? = some q → p.1 ≠ q.1
theorem stepG_unl {acc : List (Nd × Nat)} {n : Nd} (h : ∀ (i : Nat) p q, acc[i]? = some p → acc[i + 1]? = some q → p.1 ≠ q.1) : ∀ (i : Nat) p q, (stepG acc n)[i]? = some p → (stepG acc n)[i + 1]? = some q → p.1 ≠ q.1 := by
  intro i p q hp hq
  rcases List.eq_nil_or_concat acc with rfl | ⟨r, ⟨m, c⟩, rfl⟩
  · rw [stepG_ne (fun m c hm => by cases hm)] at hq
    simp at hq
  · rw [List.concat_eq_append] at *
    by_cases e : m = n
    · subst e
      rw [stepG_eq] at hp hq
      by_cases c1 : i + 1 < r.length
      · rw [List.getElem?_append_left (by omega)] at hp hq
        exact h i p q (by rw [List.getElem?_append_left (by omega)]; exact hp) (by rw [List.getElem?_append_left c1]; exact hq)
      · by_cases c2 : i + 1 = r.length
        · rw [List.getElem?_append_left (by omega)] at hp
          rw [List.getElem?_append_right (by omega), show i + 1 - r.length = 0 by omega] at hq
          have hq := Option.some.inj hq
          have := h i p (m, c) (by rw [List.getElem?_append_left (by omega)]; exact hp) (by rw [List.getElem?_append_right (by omega), show i + 1 - r.length = 0 by omega]; rfl)
          rw [← hq]
          exact this
        · rw [List.getElem?_eq_none_iff.mpr (by simp; omega)] at hq
          cases hq
    · rw [stepG_ne (fun m' c' hm => by
        rw [List.getLast?_append] at hm
        have : m = m' ∧ c = c' := by simpa using hm
        rw [← this.1]
        exact e)] at hp hq
      by_cases c1 : i + 1 < (r ++ [(m, c)]).length
      · rw [List.getElem?_append_left (by omega)] at hp
        rw [List.getElem?_append_left c1] at hq
        exact h i p q hp hq
      · by_cases c2 : i + 1 = (r ++ [(m, c)]).length
        · rw [List.getElem?_append_left (by omega)] at hp
          rw [List.getElem?_append_right (by omega), show i + 1 - (r ++ [(m, c)]).length = 0 by omega] at hq
          have hq := Option.some.inj hq
          rw [List.length_append] at c2
          rw [List.getElem?_append_right (by simp at c2; omega), show i - r.length = 0 by simp at c2; omega] at hp
          have hp := Option.some.inj hp
          rw [← hp, ← hq]
          exact e
        · rw [List.getElem?_eq_none_iff.mpr (by rw [List.length_append]; simp at c1 c2 ⊢; omega)] at hq
          cases hq
theorem grp_unl : ∀ (k : Nat) (ns : List Nd), ns.length = k → ∀ (i : Nat) p q, (grp ns)[i]? = some p → (grp ns)[i + 1]? = some q → p.1 ≠ q.1
  | 0, ns, e, i, p, q, hp, _ => by
    rw [List.eq_nil_of_length_eq_zero e] at hp
    unfold grp at hp
    simp at hp
  | k + 1, ns, e, i, p, q, hp, hq => by
    rcases List.eq_nil_or_concat ns with rfl | ⟨r, n, rfl⟩
    · simp at e
    · rw [List.concat_eq_append] at *
      rw [grp_app] at hp hq
      exact stepG_unl (grp_unl k r (by simpa using e)) i p q hp hq
theorem giv_grp {ns : List Nd} (h : EL ns) (l : ns.length ≤ 200) : Giv (grp ns) := ⟨fun p hp => by
  obtain ⟨h1, h2, h3⟩ := grp_foot ns p hp
  exact ⟨h p.1 h1, h2, Nat.le_trans h3 (Nat.le_trans l (by decide))⟩, grp_unl _ ns rfl⟩
end
section
variable {P : Program} {w : World} {K : PySem.W.Frag} {mg : Str → Option Value} {base : Heap}
theorem scWide : FnScope ["pot", "most", "found", "one", "count"] ["pot", "most"] (defScope sWide) := ⟨rfl, rfl, rfl, by decide +kernel, rfl, by decide +kernel, by decide +kernel⟩
def spWide (K : PySem.W.Frag) : Sp := fun vs H Q _ => ∃ (p : Addr) (most c : Nat), vs = [.ref p, .int most] ∧ most ≤ 200 ∧ Pot H p c ∧ c < 700000 ∧
  ∀ H' a ws gs, But p H H' → H a = none → H' a = some (.tup ws) → PrsV K H' ws gs → Giv gs → gs.length ≤ most → Pot H' p (c + 1000) → Q (.ref a) H'
theorem prs_up {p : Addr} {c : Nat} {H H' : Hp} {gs : List (Nd × Nat)} {ws : List V} (e : But p H H') (hp : Pot H p c) (h : PrsV K H ws gs) : PrsV K H' ws gs := PrsV.up (e.tupsP hp) h
theorem ok_wide {f fT fO fS fR : Addr} {fd dT dO dS dR : FuncData} (F : Fun K "_law_wide" "_law_wide" sWide f fd) (T : Fun K "_law_take" "_law_take" sTake fT dT) (gT : mg "_law_take" = some (.ref fT)) (bT : Binds K dT ["pot", "bound"] [])
    (O : Fun K "_law_of" "_law_of" sOf fO dO) (gO : mg "_law_of" = some (.ref fO)) (bO : Binds K dO ["pot", "some"] []) (S : Fun K "_law_sequence" "_law_sequence" sSeq fS dS) (gS : mg "_law_sequence" = some (.ref fS)) (bS : Binds K dS ["pot", "most"] [])
    (R : Fun K "_law_runs" "_law_runs" sLRuns fR dR) (gR : mg "_law_runs" = some (.ref fR)) (bR : Binds K dR ["some"] []) (ml : mg "len" = none) (mt : mg "tuple" = none) : FnOk P w K mg base CX0 4 f fd ["pot", "most"] (spWide K) := by
  have GT : FnOk P w K mg base CX0 2 fT dT ["pot", "bound"] spTake := ok_take T
  have GO : FnOk P w K mg base CX0 2 fO dO ["pot", "some"] spOf := ok_of O T gT bT ml
  have GS : FnOk P w K mg base CX0 3 fS dS ["pot", "most"] (spSeq K) := ok_seq S T gT bT O gO bO ml
  have GR : FnOk P w K mg base CX0 3 fR dR ["some"] (spLRuns K) := ok_lruns R mt
  refine F.ok scWide (fun vs H Q E h => ?_) (fun cdv A outer s H vs Q E hr h => ?_)
  · obtain ⟨p, most, c, rfl, _⟩ := h
    rfl
  · obtain ⟨p, most, c, rfl, hm, hp, hc, q⟩ := h
    have r2 := hr.mono (j := 2) (by omega)
    refine ⟨_, pss_cons (ps_set (i := 2) scWide.nd rfl (.inl rfl) (pe_lst pa_nil))
      (pss_cons (ps_for PassesOwn.never rfl (pi_tup (pe_call GR hr (by rfl) gR R.kp bR .nil pass0 (pa_cons (pe_call GS hr (by rfl) gS S.kp bS .nil pass0 (pa_cons (pv 0) (pa_cons (pv 1) pa_nil))) pa_nil)))
          (pg_tup rfl (pgs_cons (pg_name (i := 3) scWide.nd rfl (.inl rfl)) (pgs_cons (pg_name (i := 4) scWide.nd rfl (.inl rfl)) pgs_nil)))
        (pss_one (ps_expr (pe_bm PySem.F.plainAttrs_list PySem.F.slot_list_append PySem.F.type_list_append mt_append (pv 2) (pa_cons (pe_tup (pa_cons (pv 3) (pa_cons (pe_call GO r2 (by rfl) gO O.kp bO .nil pass0 (pa_cons (pv 0)
          (pa_cons (pe_lst (pa_cons (pv 4) (pa_cons (pv 4) (pa_cons pe_int (pa_cons pe_int (pa_cons pe_int (pa_cons (pe_op op_pow pe_int pe_int)
            (pa_cons (pe_op op_add pe_int (pe_call GT r2 (by rfl) gT T.kp bT .nil pass0 (pa_cons (pv 0) (pa_cons (pe_op op_pow pe_int pe_int) pa_nil)))) pa_nil)))))))) pa_nil))) pa_nil))) pa_nil)))))
      (pss_one (ps_ret (pe_callTy call_tuple_of (by rfl) mt PyProof.Rows.boot_tuple (pa_cons (pv 2) pa_nil))))), ?_⟩
    refine ⟨(show 0 ≤ sizeLine from by decide), fun FF nF => ?_⟩
    have nFp := hp.ne nF
    refine ⟨.ref p, rfl, _, rfl, p, most, c, rfl, hm, hp.new nF, by omega, fun H1 a xs ns b1 na ha kn eln ln p1 => ?_⟩
    have l2 : ns.length ≤ 200 := by omega
    refine ⟨a, xs, ns, 0, rfl, .inl (.inl ha), kn, eln.ok, by decide, by omega, fun H2 rt ws s2 hrt kP => ?_⟩
    have giv := giv_grp eln l2
    have lg := grp_len ns
    generalize grp ns = gs at kP giv lg
    have f1 := b1.at nFp upd_same
    have f2 := s2 _ _ f1
    have p2 : Pot H2 p (c + 500) := by
      obtain ⟨o, ho, po⟩ := p1
      exact ⟨o, s2 _ _ ho, po⟩
    have b02 : But p H H2 := ((But.new nF).trans b1).trans (Same.but s2)
    refine ⟨rt, rfl, ⟨ws, .inl (.inl hrt)⟩, ?_⟩
    refine for_tup (xs := ws) (fun i σ H' => ∃ (y3 y4 : Option V) (vs' : List V) (hs : List (Nd × Nat)), σ = [some (.ref p), some (.int most), some (.ref FF), y3, y4] ∧ H' FF = some (.lst vs') ∧ PrsV K H' vs' hs ∧ hs.length = i ∧
        (∀ (j : Nat) (x y : Nd × Nat), hs[j]? = some x → gs[j]? = some y → x.1 = y.1) ∧ (∀ x ∈ hs, 1 ≤ x.2 ∧ x.2 ≤ 10 ^ 18) ∧ But p H H' ∧ Tups K H2 H' ∧ Pot H' p (c + 500 + 2 * i))
      ⟨none, none, [], [], rfl, f2, .nil, rfl, (fun j x y h => by simp at h), (fun x h => nomatch h), b02, .refl, p2⟩ (fun i σ H' _ hp' => ?_) (fun i u σ H3 hu hp' => ?_) (fun σ H' hp' => ?_)
    · obtain ⟨_, _, _, _, _, _, _, _, _, _, _, tp, _⟩ := hp'
      exact tp _ _ (.inl (.inl hrt))
    · obtain ⟨y3, y4, vs', hs, rfl, g1, g2, g3, g4, g5, g6, tp, p3⟩ := hp'
      obtain ⟨pr, ra, v, hpi, rfl, t1, t2⟩ := (PrsV.up tp kP).get hu
      have hil := (List.getElem?_eq_some_iff.mp hpi).1
      obtain ⟨⟨e0, ee, _⟩, c1, c2⟩ := giv.1 pr (List.mem_of_getElem? hpi)
      refine ⟨ra, _, rfl, t1, rfl, v, _, rfl, _, [], rfl, rfl, ?_⟩
      refine ⟨.ref FF, rfl, .inl ⟨rfl, _, .inl (.inl g1)⟩, v, rfl, .ref p, rfl, _, rfl, _, rfl, 10, 18, rfl, rfl, ⟨by decide, by decide, by decide⟩, .ref p, rfl, 10, 18, rfl, rfl, ⟨by decide, by decide, by decide⟩, p, _, _, rfl, p3, by omega, (by decide), (by decide +kernel), fun d H4 d0 d1 b4 p4 => ⟨1, d, rfl, rfl,
        (show 7 ≤ sizeLine from by decide), fun l6 n6 => ⟨p, l6, _, _, rfl, p4.new n6, by omega, p4.ne n6, upd_same, List.cons_ne_nil _ _, (show 7 ≤ 1000 from by decide), fun j x H5 hj b5 p5 => ⟨(show 2 ≤ sizeLine from by decide), fun t7 n7 => ?_⟩⟩⟩⟩
      have d1' : d < (10 : Int) ^ 18 := d1
      obtain ⟨k, rfl, k1, k2⟩ : ∃ k : Nat, x = .int k ∧ 1 ≤ k ∧ k ≤ 10 ^ 18 := by
        have := List.mem_of_getElem? hj
        simp only [List.mem_cons, List.not_mem_nil, or_false] at this
        rcases this with rfl | rfl | rfl | rfl | rfl | rfl | rfl
        · exact ⟨pr.2, rfl, c1, c2⟩
        · exact ⟨pr.2, rfl, c1, c2⟩
        · exact ⟨1, rfl, by decide, by decide⟩
        · exact ⟨2, rfl, by decide, by decide⟩
        · exact ⟨10, rfl, by decide, by decide⟩
        · exact ⟨10 ^ 18, rfl, by decide, by decide⟩
        · exact ⟨1 + d.toNat, int_congr (by omega), by omega, by omega⟩
      have b35 := (b4.trans (.new n6)).trans b5
      have s7 := sameN (o := .tup [v, .int (k : Nat)]) n7
      have b37 := b35.trans (Same.but s7)
      have gF7 := b37.at nFp g1
      have tp7 : Tups K H3 (upd H5 t7 (.tup [v, .int (k : Nat)])) := b37.tupsP p3
      have t9 : Tups K (upd H5 t7 (.tup [v, .int (k : Nat)])) (upd (upd H5 t7 (.tup [v, .int (k : Nat)])) FF (.lst (vs' ++ [.ref t7]))) := (But.set (p := FF)).tups gF7
      have lv : vs'.length = hs.length := PrsV.len g2
      refine ⟨FF, _, _, rfl, rfl, gF7, line5 (by omega), _, _, vs' ++ [.ref t7], hs ++ [(pr.1, k)], rfl, upd_same, ?_, by rw [List.length_append, g3]; rfl, fun jj x y hx hy => ?_, fun x hx => ?_, (g6.trans b37).wr nF, (tp.trans tp7).trans t9, ?_⟩
      · exact (PrsV.up t9 (PrsV.up tp7 g2)).app (PrsV.one (p := (pr.1, k)) (t9 _ _ (.inl (.inl upd_same))) ((t2.up tp7).up t9))
      · by_cases c3 : jj < hs.length
        · rw [List.getElem?_append_left c3] at hx
          exact g4 jj x y hx hy
        · by_cases c4 : jj = hs.length
          · rw [List.getElem?_append_right (by omega), c4, Nat.sub_self] at hx
            have hx := Option.some.inj hx
            rw [c4, g3, hpi] at hy
            rw [← hx, ← Option.some.inj hy]
          · rw [List.getElem?_eq_none_iff.mpr (by simp; omega)] at hx
            cases hx
      · rcases List.mem_append.mp hx with hx | hx
        · exact g5 x hx
        · rw [List.mem_singleton.mp hx]
          exact ⟨k1, k2⟩
      · obtain ⟨o, ho, po⟩ := p5
        exact ⟨o, by rw [upd_ne nFp.symm]; exact s7 _ _ ho, po.le (by omega)⟩
    · obtain ⟨y3, y4, vs', hs, rfl, g1, g2, g3, g4, g5, g6, tp, p3⟩ := hp'
      have lw := PrsV.len kP
      rw [lw] at g3 p3
      refine ⟨.ref FF, rfl, FF, vs', rfl, .inl ⟨.inl (.inl g1), fun t nt => q _ t vs' hs (g6.trans (.new nt)) (g6.freeP p3 nt) upd_same (PrsV.up (.of (sameN nt)) g2) ⟨fun x hx => ?_, fun i x y hx hy => ?_⟩ (by omega) ((p3.new nt).le (by omega))⟩⟩
      · obtain ⟨i, hi⟩ := List.getElem?_of_mem hx
        obtain ⟨y, hy⟩ := get_of (l := gs) (i := i) (by have := (List.getElem?_eq_some_iff.mp hi).1; omega)
        rw [g4 i x y hi hy]
        exact ⟨(giv.1 y (List.mem_of_getElem? hy)).1, g5 x hx⟩
      · have i1 := (List.getElem?_eq_some_iff.mp hy).1
        obtain ⟨x', hx'⟩ := get_of (l := gs) (i := i) (by omega)
        obtain ⟨y', hy'⟩ := get_of (l := gs) (i := i + 1) (by omega)
        rw [g4 i x x' hx hx', g4 (i + 1) y y' hy hy']
        exact giv.2 i x' y' hx' hy'
end

end C25

set_option Elab.async false
set_option linter.all false
set_option maxRecDepth 100000
namespace C25
open PySem PySem.Spec PyProof.Rows L2 Loc RZ
/-! ### marks, peaks, cuts, blocks -/
def rd : Nat → List Nat → List Nat
  | 0, l => l
  | i + 1, l => M07.round (rd i l)
theorem rd_len : ∀ i l, (rd i l).length = l.length
  | 0, _ => rfl
  | i + 1, l => by rw [rd, M07.round_length, rd_len i l]
theorem rd_unl : ∀ i l, M07.Unl l → M07.Unl (rd i l)
  | 0, _, h => h
  | i + 1, l, h => M07.round_unl _ (rd_unl i l h)
def mrk (ns : List Nd) : List Nat := rd 4 (fms (ns.map cd))
theorem mrk_len (ns : List Nd) : (mrk ns).length = ns.length := by
  unfold mrk
  rw [rd_len, fms_length, List.length_map]
def tops (ns : List Nd) : List Nat := M10.pks (mrk ns)
/-- the piece of a row -/
def pce (ns : List Nd) (z : Nat × Nat) : List Nd := (ns.take z.2).drop z.1
def pieces (ns : List Nd) : List (Nat × Nat) := M10.pcs ns.length (tops ns)
theorem gap_row {ns : List Nd} (h : 2 ≤ ns.length) : M10.Gap ns.length 0 (tops ns) := by
  have := M10.pks_gap (ms := mrk ns) (by rw [mrk_len]; exact h)
  rw [mrk_len] at this
  exact this
theorem pieces_cont {ns : List Nd} (h : 2 ≤ ns.length) : M10.Cont 0 ns.length (pieces ns) := M10.sts_cont (gap_row h)
section
variable {P : Program} {w : World} {K : PySem.W.Frag} {mg : Str → Option Value} {base : Heap}
theorem scMarks : FnScope ["row", "some", "_"] ["row"] (defScope sMarks) := ⟨rfl, rfl, rfl, by decide +kernel, rfl, by decide +kernel, by decide +kernel⟩
theorem scPeaks : FnScope ["row", "some", "places", "place"] ["row"] (defScope sPeaks) := ⟨rfl, rfl, rfl, by decide +kernel, rfl, by decide +kernel, by decide +kernel⟩
theorem scCuts : FnScope ["row", "tops", "begins", "ends", "places", "begin", "end"] ["row"] (defScope sCuts) := ⟨rfl, rfl, rfl, by decide +kernel, rfl, by decide +kernel, by decide +kernel⟩
theorem scBlocks : FnScope ["row", "begins", "ends", "begin", "end"] ["row"] (defScope sBlocks) := ⟨rfl, rfl, rfl, by decide +kernel, rfl, by decide +kernel, by decide +kernel⟩
/-- a row of nodes -/
def RowV (K : PySem.W.Frag) (m : Nat) (H : Hp) (a : Addr) (ns : List Nd) : Prop := ∃ us l, SqT K H a us ∧ NdsV K H us ns ∧ OkAll ns l ∧ Unb ns ∧ wide l ≤ 1000000 ∧ (∀ n ∈ ns, ht n < m) ∧ 2 ≤ ns.length ∧ ns.length ≤ 100000
theorem RowV.same {m : Nat} {H H' : Hp} {a : Addr} {ns : List Nd} (h : RowV K m H a ns) (s : Same H H') : RowV K m H' a ns := by
  obtain ⟨us, l, h1, h2, h3⟩ := h
  exact ⟨us, l, sameT s h1, h2.up (.of s), h3⟩
theorem RowV.at {m : Nat} {H : Hp} {a : Addr} {ns : List Nd} (h : RowV K m H a ns) : ∃ us, SqT K H a us ∧ us.length = ns.length ∧ 2 ≤ ns.length ∧ ns.length ≤ 100000 := by
  obtain ⟨us, l, h1, h2, _, _, _, _, h3, h4⟩ := h
  exact ⟨us, h1, h2.len, h3, h4⟩
def spMarks (K : PySem.W.Frag) (m : Nat) : Sp := fun vs H Q _ => ∃ (a : Addr) (ns : List Nd), vs = [.ref a] ∧ RowV K m H a ns ∧ ∀ H' p, Same H H' → SqT K H' p (vN (mrk ns)) → Q (.ref p) H'
def spPeaks (K : PySem.W.Frag) (m : Nat) : Sp := fun vs H Q _ => ∃ (a : Addr) (ns : List Nd), vs = [.ref a] ∧ RowV K m H a ns ∧ ∀ H' p, Same H H' → SqT K H' p (vN (tops ns)) → Q (.ref p) H'
def spCuts (K : PySem.W.Frag) (m : Nat) : Sp := fun vs H Q _ => ∃ (a : Addr) (ns : List Nd), vs = [.ref a] ∧ RowV K m H a ns ∧ ∀ H' p, Same H H' → SqT K H' p (vN ((pieces ns).map (·.1))) → Q (.ref p) H'
def spBlocks (K : PySem.W.Frag) (m : Nat) : Sp := fun vs H Q _ => ∃ (a : Addr) (ns : List Nd), vs = [.ref a] ∧ RowV K m H a ns ∧
  ∀ H' p us, Same H H' → SqT K H' p us → NdsV K H' us ((pieces ns).map fun z => Nd.blk (pce ns z)) → Q (.ref p) H'
theorem ok_marks {f g h' : Addr} {fd gd hd : FuncData} {m : Nat} (F : Fun K "marks" "marks" sMarks f fd) (G : FnOk P w K mg base CX0 (m + 3) g gd ["row"] (spFirst K m)) (G' : Fun K "first_marks" "first_marks" sFirst g gd) (gG : mg "first_marks" = some (.ref g)) (bG : Binds K gd ["row"] [])
    (N : FnOk P w K mg base CX0 2 h' hd ["some"] (spNext K)) (N' : Fun K "next_marks" "next_marks" sNext h' hd) (gN : mg "next_marks" = some (.ref h')) (bN : Binds K hd ["some"] []) (mr : mg "range" = none) : FnOk P w K mg base CX0 (m + 4) f fd ["row"] (spMarks K m) := by
  refine F.ok scMarks (fun vs H Q E h => ?_) (fun cdv A outer s H vs Q E hr h => ?_)
  · obtain ⟨a, ns, rfl, _⟩ := h
    rfl
  · obtain ⟨a, ns, rfl, ⟨us, l, hT, hN, ok, un, hw, hh, h2, hl⟩, q⟩ := h
    have r2 := hr.mono (j := 2) (by omega)
    refine ⟨_, pss_cons (ps_set (i := 1) scMarks.nd rfl (.inl rfl) (pe_call G hr (by rfl) gG G'.kp bG .nil pass0 (pa_cons (pv 0) pa_nil)))
      (pss_cons (ps_for PassesOwn.never rfl (pi_range1 (by rfl) mr (pa_cons pe_int pa_nil)) (pg_name (i := 2) scMarks.nd rfl (.inl rfl))
        (pss_one (ps_set (i := 1) scMarks.nd rfl (.inl rfl) (pe_call N r2 (by rfl) gN N'.kp bN .nil pass0 (pa_cons (pv 1) pa_nil)))))
      (pss_one (ps_ret (pv 1)))), ?_⟩
    refine ⟨.ref a, rfl, a, us, ns, l, rfl, hT, hN, ok, hw, hh, hl, fun H1 p s1 hp => ?_⟩
    have u0 : M07.Unl (fms (ns.map cd)) := fms_unl _ (cds_sgs ns) (unlT_of ok un)
    refine ⟨4, rfl, by decide, by decide, ?_⟩
    refine for_range (fun i σ H' => ∃ p y2, σ = [some (.ref a), some (.ref p), y2] ∧ SqT K H' p (vN (rd i (fms (ns.map cd)))) ∧ Same H H') ⟨p, none, rfl, .inl (.inl hp), s1⟩ (fun i σ H2 hi hp => ?_) (fun σ H' hp => ?_)
    · obtain ⟨p, y2, rfl, hp, s2⟩ := hp
      refine ⟨.ref p, rfl, p, _, rfl, hp, rd_unl i _ u0, ?_, fun H3 p3 s3 h3 => ⟨p3, _, rfl, .inl (.inl h3), s2.trans s3⟩⟩
      rw [rd_len, fms_length, List.length_map]
      exact hl
    · obtain ⟨p, y2, rfl, hp, s2⟩ := hp
      exact ⟨_, rfl, q _ _ s2 hp⟩
theorem freeS {H H' : Hp} {a : Addr} (s : Same H H') (h : H' a = none) : H a = none := by
  cases z : H a with
  | none => rfl
  | some u =>
    rw [s _ _ z] at h
    cases h
theorem range'_more (s n : Nat) : List.range' s (n + 1) = List.range' s n ++ [s + n] := by
  rw [List.range'_concat]
  simp
theorem ok_peaks {f g : Addr} {fd gd : FuncData} {m : Nat} (F : Fun K "peaks" "peaks" sPeaks f fd) (G : FnOk P w K mg base CX0 (m + 4) g gd ["row"] (spMarks K m)) (G' : Fun K "marks" "marks" sMarks g gd) (gG : mg "marks" = some (.ref g)) (bG : Binds K gd ["row"] [])
    (mr : mg "range" = none) (ml : mg "len" = none) (mt : mg "tuple" = none) : FnOk P w K mg base CX0 (m + 5) f fd ["row"] (spPeaks K m) := by
  refine F.ok scPeaks (fun vs H Q E h => ?_) (fun cdv A outer s H vs Q E hr h => ?_)
  · obtain ⟨a, ns, rfl, _⟩ := h
    rfl
  · obtain ⟨a, ns, rfl, hR, q⟩ := h
    refine ⟨_, pss_cons (ps_set (i := 1) scPeaks.nd rfl (.inr rfl) (pe_call G hr (by rfl) gG G'.kp bG .nil pass0 (pa_cons (pv 0) pa_nil)))
      (pss_cons (ps_set (i := 2) scPeaks.nd rfl (.inl rfl) (pe_callTy cr_range2 (by rfl) mr (by decide +kernel) (pa_cons pe_int (pa_cons (pe_op op_sub (pe_callB call_len_seq (by rfl) ml PySem.boot_len (pa_cons (pv 0) pa_nil)) pe_int) pa_nil))))
      (pss_one (ps_ret (pe_callTy call_tuple_of (by rfl) mt PyProof.Rows.boot_tuple (pa_cons (pe_lc (own := [("place", 3)]) (g := gName 3)
        (tt := tTest (tChain (rI0 fun i j => .bl (decide (i < j))) (rI0 fun i j => .bl (decide (j < i))) (tOp (rIxT K) (tVar 1) (tOp (rI0 fun i j => .int (i - j)) (tVar 3) (tC (.int 1)))) (tOp (rIxT K) (tVar 1) (tVar 3)) (tOp (rIxT K) (tVar 1) (tOp (rI0 fun i j => .int (i + j)) (tVar 3) (tC (.int 1))))))
        rfl scPeaks.nd (pi_rngV (pv 2)) (blkOk_by (N := ["row", "some", "places", "place"]) (sc := defScope sPeaks) (by decide +kernel))
        (fun _ _ _ _ _ => pg_name (i := 3) scPeaks.nd rfl (Or.inl rfl))
        (fun _ _ _ _ _ => pts_one (pt_chain op_lt op_gt (pe_ix ix_tup (pv 1) (pe_op op_sub (pv 3) pe_int) (fun _ _ => rfl)) (pe_ix ix_tup (pv 1) (pv 3) (fun _ _ => rfl)) (pe_ix ix_tup (pv 1) (pe_op op_add (pv 3) pe_int) (fun _ _ => rfl))))
        (fun _ _ _ _ _ => pv 3)) pa_nil))))), ?_⟩
    refine ⟨.ref a, rfl, a, ns, rfl, hR, fun H1 p s1 hp => ?_⟩
    obtain ⟨us, hT, hlu, h2, hl⟩ := (hR.same s1).at
    refine ⟨.ref a, rfl, a, us, rfl, .inr hT, _, _, rfl, rfl, 2, _, rfl, fun r nr => ?_⟩
    have lm := mrk_len ns
    have sR := sameN (o := .rng 2 (((us.length : Nat) : Int) - 1)) nr
    refine ⟨.ref r, rfl, r, 2, _, rfl, upd_same, ⟨by decide, by decide, by omega, by omega⟩, fun D nD => ?_⟩
    have n0 : ((((us.length : Nat) : Int) - 1) - 2).toNat = ns.length - 3 := by omega
    refine lc_range (fun i H' => H' D = some (.lst (vN ((List.range' 2 i).filter (M10.pk (mrk ns))))) ∧ Same H1 H') ⟨upd_same, sR.trans (sameN nD)⟩ (fun i H' hi hp' => ?_) (fun H' hp' => ?_)
    · obtain ⟨gD, sD⟩ := hp'
      rw [n0] at hi
      have pM := sameT sD hp
      obtain ⟨x, hx⟩ := get_of (l := mrk ns) (i := i + 1) (by omega)
      obtain ⟨y, hy⟩ := get_of (l := mrk ns) (i := i + 2) (by omega)
      obtain ⟨z, hz⟩ := get_of (l := mrk ns) (i := i + 3) (by omega)
      have ek : M10.pk (mrk ns) (2 + i) = (decide (x < y) && decide (z < y)) := by
        unfold M10.pk
        rw [show 2 + i - 1 = i + 1 by omega, show 2 + i = i + 2 by omega, hx, hy, show i + 2 + 1 = i + 3 by omega, hz]
      refine ⟨rfl, ?_⟩
      refine ⟨.ref p, rfl, _, rfl, _, 1, rfl, rfl, p, _, ((i + 1 : Nat) : Int), .int x, rfl, int_congr (by omega), pM, atI_nat (vN_get hx), .ref p, rfl, _, rfl, p, _, ((i + 2 : Nat) : Int), .int y, rfl, int_congr (by omega), pM, atI_nat (vN_get hy), x, y, rfl, rfl, _, rfl, ?_⟩
      have keep : (decide (x < y) && decide (z < y)) = false → H' D = some (.lst (vN ((List.range' 2 (i + 1)).filter (M10.pk (mrk ns))))) ∧ Same H1 H' := fun e => by
        rw [range'_more, List.filter_append, List.filter_cons_of_neg (by rw [ek, e]; simp), List.filter_nil, List.append_nil]
        exact ⟨gD, sD⟩
      refine ite2 (fun e => ?_) (fun e => ?_)
      · have e1 : x < y := by
          have := of_decide_eq_true e
          omega
        refine ⟨.ref p, rfl, _, rfl, _, 1, rfl, rfl, p, _, ((i + 3 : Nat) : Int), .int z, rfl, int_congr (by omega), pM, atI_nat (vN_get hz), y, z, rfl, rfl, _, rfl, ite2 (fun e2 => ?_) (fun e2 => ?_)⟩
        · have e3 : z < y := by
            have := of_decide_eq_true e2
            omega
          refine ⟨_, rfl, _, gD, ?_, ?_, sameW sD (freeS sR nD)⟩
          · rw [vN_len]
            refine line5 (Nat.le_trans (List.length_filter_le _ _) ?_)
            rw [List.length_range']
            omega
          · rw [upd_same, range'_more, List.filter_append, List.filter_cons_of_pos (by rw [ek, decide_eq_true e1, decide_eq_true e3]; rfl), List.filter_nil, vN_app]
            exact congrArg (fun z => some (HO.lst (_ ++ [z]))) (int_congr (by omega))
        · refine keep ?_
          have e3 : ¬ z < y := fun c => e2 (decide_eq_true (by omega))
          rw [decide_eq_false e3, Bool.and_false]
      · refine ⟨_, rfl, iteF (keep ?_)⟩
        have e3 : ¬ x < y := fun c => e (decide_eq_true (by omega))
        rw [decide_eq_false e3, Bool.false_and]
    · obtain ⟨gD, sD⟩ := hp'
      rw [n0] at gD
      refine ⟨D, _, rfl, .inl ⟨.inl (.inl gD), fun t nt => q _ t (s1.trans (sD.trans (sameN nt))) (.inl (.inl ?_))⟩⟩
      rw [upd_same]
      unfold tops M10.pks
      rw [lm]
theorem ndsV_drop {H : Hp} : ∀ {ps : List Nd} {vs : List V} (k : Nat), NdsV K H vs ps → NdsV K H (vs.drop k) (ps.drop k)
  | _, _, 0, h => h
  | [], vs, k + 1, h => by
    have := h.inv0
    subst this
    exact h
  | p :: ps, vs, k + 1, h => by
    obtain ⟨v, r, rfl, _, h2⟩ := h.inv
    exact ndsV_drop k h2
theorem slice_any {H : Hp} {a : Addr} {xs : List V} {b e : Nat} {Q : VK} (h : SqT K H a xs) (h1 : b ≤ e) (h2 : e ≤ xs.length) (q : ∀ H' t, Same H H' → SqT K H' t ((xs.take e).drop b) → Q (.ref t) H') : rSlA K (.ref a) (some (b : Int)) (some (e : Int)) H Q := by
  refine ⟨a, xs, rfl, h, fun hw => ?_, fun hw p hp => q _ p (sameN hp) (.inl (.inl ?_))⟩
  · rw [HT.sIx_nat, HT.sIx_nat] at hw
    have e1 : b = 0 := by omega
    have e2 : e = xs.length := by omega
    subst e1 e2
    refine q H a (Same.refl H) ?_
    rw [List.take_length]
    exact h
  · rw [upd_same]
    unfold cutV
    rw [HT.sIx_nat, HT.sIx_nat, Nat.min_eq_left h2, Nat.min_eq_left (Nat.le_trans h1 h2), List.drop_take]
theorem cat_any {H : Hp} {a b : Addr} {xs ys : List V} {Q : VK} (h : SqT K H a xs) (k : SqT K H b ys) (len : xs.length + ys.length ≤ sizeLine) (q : ∀ H' t, Same H H' → SqT K H' t (xs ++ ys) → Q (.ref t) H') : rCatA K (.ref a) (.ref b) H Q := by
  refine ⟨a, b, xs, ys, rfl, rfl, h, k, len, fun e => q H b (Same.refl H) (by rw [e]; exact k), fun _ e => q H a (Same.refl H) (by rw [e, List.append_nil]; exact h), fun _ _ p hp => q _ p (sameN hp) (.inl (.inl upd_same))⟩
theorem pieces_fst_len {ns : List Nd} (h : 2 ≤ ns.length) : (pieces ns).length ≤ ns.length := by
  have := (pieces_cont h).len
  omega
theorem ok_cuts {f g : Addr} {fd gd : FuncData} {m : Nat} (F : Fun K "cuts" "cuts" sCuts f fd) (G : FnOk P w K mg base CX0 (m + 5) g gd ["row"] (spPeaks K m)) (G' : Fun K "peaks" "peaks" sPeaks g gd) (gG : mg "peaks" = some (.ref g)) (bG : Binds K gd ["row"] [])
    (mr : mg "range" = none) (ml : mg "len" = none) (mt : mg "tuple" = none) (mz : mg "zip" = none) (mlist : mg "list" = none) : FnOk P w K mg base CX0 (m + 6) f fd ["row"] (spCuts K m) := by
  refine F.ok scCuts (fun vs H Q E h => ?_) (fun cdv A outer s H vs Q E hr h => ?_)
  · obtain ⟨a, ns, rfl, _⟩ := h
    rfl
  · obtain ⟨a, ns, rfl, hR, q⟩ := h
    refine ⟨_, pss_cons (ps_set (i := 1) scCuts.nd rfl (.inl rfl) (pe_call G hr (by rfl) gG G'.kp bG .nil pass0 (pa_cons (pv 0) pa_nil)))
      (pss_cons (ps_set (i := 2) scCuts.nd rfl (.inl rfl) (pe_op op_catA (pe_tup (pa_cons pe_int pa_nil)) (pv 1)))
      (pss_cons (ps_set (i := 3) scCuts.nd rfl (.inl rfl) (pe_op op_catA (pv 1) (pe_tup (pa_cons (pe_callB call_len_seq (by rfl) ml PySem.boot_len (pa_cons (pv 0) pa_nil)) pa_nil))))
      (pss_cons (ps_set (i := 4) scCuts.nd rfl (.inl rfl) (pe_lst pa_nil))
      (pss_cons (ps_for PassesOwn.never rfl (pi_zipA (by rfl) mz (pa_cons (pv 2) (pa_cons (pv 3) pa_nil))) (pg_tup rfl (pgs_cons (pg_name (i := 5) scCuts.nd rfl (.inl rfl)) (pgs_cons (pg_name (i := 6) scCuts.nd rfl (.inl rfl)) pgs_nil)))
        (pss_one (ps_expr (pe_bm PySem.F.plainAttrs_list PySem.F.slot_list_extend PySem.F.type_list_extend mt_extend (pv 4)
          (pa_cons (pe_listRg3 (by rfl) (by rfl) mlist (by rfl) mr (pa_cons (pv 5) (pa_cons (pe_op op_sub (pv 6) pe_int) (pa_cons pe_int pa_nil)))) pa_nil)))))
      (pss_one (ps_ret (pe_callTy call_tuple_of (by rfl) mt PyProof.Rows.boot_tuple (pa_cons (pv 4) pa_nil)))))))), ?_⟩
    refine ⟨.ref a, rfl, a, ns, rfl, hR, fun H1 p s1 hp => ?_⟩
    obtain ⟨us, hT, hlu, h2, hl⟩ := (hR.same s1).at
    have gap := gap_row h2
    have con := pieces_cont h2
    have lp := pieces_fst_len h2
    unfold pieces M10.pcs at con lp
    have tl : (tops ns).length ≤ ns.length := by
      unfold tops M10.pks
      refine Nat.le_trans (List.length_filter_le _ _) ?_
      rw [List.length_range', mrk_len]
      omega
    refine ⟨(show 1 ≤ sizeLine from by decide), fun t0 n0 => ⟨.ref p, rfl, cat_any (.inl (.inl upd_same)) (sameT (sameN n0) hp) (Nat.le_trans (show 1 + (vN (tops ns)).length ≤ 100001 by rw [vN_len]; omega) (by decide)) fun H2 b s2 hb => ?_⟩⟩
    have s12 := (sameN (o := .tup [.int 0]) n0).trans s2
    refine ⟨.ref p, rfl, .ref a, rfl, a, us, rfl, .inr (sameT s12 hT), (show 1 ≤ sizeLine from by decide), fun t3 n3 => cat_any (sameT (s12.trans (sameN n3)) hp) (.inl (.inl upd_same)) (Nat.le_trans (show (vN (tops ns)).length + 1 ≤ 100001 by rw [vN_len]; omega) (by decide)) fun H3 e s3 he => ?_⟩
    have s23 := (sameN (o := .tup [.int ((us.length : Nat) : Int)]) n3).trans s3
    have hb3 : SqT K H3 b (vN (0 :: tops ns)) := sameT s23 hb
    have he3 : SqT K H3 e (vN (tops ns ++ [ns.length])) := by
      rw [vN_app, ← hlu]
      exact he
    have s13 := s12.trans s23
    rw [← M10.sts_fst ns.length 0 (tops ns)] at hb3
    rw [← M10.sts_snd ns.length 0 (tops ns)] at he3
    refine ⟨(show 0 ≤ sizeLine from by decide), fun L nL => ?_⟩
    have sL := sameN (o := .lst []) nL
    refine ⟨.ref b, rfl, .ref e, rfl, b, e, _, _, rfl, .inr ⟨sameT sL hb3, sameT sL he3, ?_⟩⟩
    generalize hst : M10.sts ns.length 0 (tops ns) = st at hb3 he3 con lp
    refine for_zipT (xs := vN (st.map (·.1))) (ys := vN (st.map (·.2))) (by simp) (fun i σ H' => ∃ y5 y6, σ = [some (.ref a), some (.ref p), some (.ref b), some (.ref e), some (.ref L), y5, y6] ∧ H' L = some (.lst (vN (((st.take i).flatMap M10.stz).map (·.1)))) ∧ Same H3 H')
      ⟨none, none, rfl, upd_same, sL⟩ (fun i σ H' hp' => ?_) (fun i x y T σ H' hx hy hp' nT => ?_) (fun σ H' hp' => ?_)
    · obtain ⟨_, _, _, _, s4⟩ := hp'
      exact ⟨sameT s4 hb3, sameT s4 he3⟩
    · obtain ⟨y5, y6, rfl, gL, s4⟩ := hp'
      obtain ⟨z, hz, rfl⟩ : ∃ z, st[i]? = some z ∧ x = .int (z.1 : Nat) := by
        rw [List.getElem?_map, List.getElem?_map, Option.map_map] at hx
        obtain ⟨z, hz, rfl⟩ := Option.map_eq_some_iff.mp hx
        exact ⟨z, hz, rfl⟩
      have ey : y = .int (z.2 : Nat) := by
        rw [List.getElem?_map, List.getElem?_map, hz] at hy
        exact (Option.some.inj hy).symm
      subst ey
      have hzb := M10.sts_gap gap z (by rw [hst]; exact List.mem_of_getElem? hz)
      obtain ⟨d, hd⟩ : ∃ d, z.2 = z.1 + d := ⟨z.2 - z.1, by omega⟩
      have d2 : 2 ≤ d := by omega
      have gT := sameN (o := .tup [V.int (z.1 : Nat), .int (z.2 : Nat)]) nT
      refine ⟨T, [.int (z.1 : Nat), .int (z.2 : Nat)], rfl, .inl (.inl upd_same), rfl, _, [.int (z.2 : Nat)], rfl, _, [], rfl, rfl, ?_⟩
      refine ⟨.ref L, rfl, .inl ⟨rfl, _, .inl (.inl (gT _ _ gL))⟩, _, rfl, _, rfl, _, 1, rfl, rfl, (z.1 : Nat), _, 2, d / 2, rfl, by rw [hd]; exact rgC_two d2 (by omega), by omega, fun l5 n5 => ?_⟩
      have tk : st.take (i + 1) = st.take i ++ [z] := take_more hz
      have ev : ((List.range (d / 2)).map fun k => V.int (((z.1 : Nat) : Int) + (k : Nat) * 2)) = vN ((M10.stz z).map (·.1)) := by
        unfold M10.stz
        rw [hd, Nat.add_sub_cancel_left, M10.str_fst d z.1 d2]
        show _ = List.map (fun n : Nat => V.int (n : Int)) (List.map (fun k => z.1 + k * 2) (List.range (d / 2)))
        rw [List.map_map]
        refine List.map_congr_left fun k _ => int_congr ?_
        show (z.1 : Int) + (k : Nat) * 2 = ((z.1 + k * 2 : Nat) : Int)
        omega
      have lall : (((st.take i).flatMap M10.stz).map (·.1)).length + ((M10.stz z).map (·.1)).length ≤ ns.length := by
        have e1 : (st.take (i + 1)).flatMap M10.stz ++ (st.drop (i + 1)).flatMap M10.stz = st.flatMap M10.stz := by rw [← List.flatMap_append, List.take_append_drop]
        have e2 := congrArg List.length e1
        rw [List.length_append, tk, List.flatMap_append, List.length_append] at e2
        have e3 : ([z].flatMap M10.stz) = M10.stz z := by simp
        rw [e3] at e2
        rw [List.length_map, List.length_map]
        omega
      refine ⟨L, l5, _, _, rfl, rfl, sameN n5 _ _ (gT _ _ gL), upd_same, ?_, _, _, rfl, ?_, sameW ((s4.trans gT).trans (sameN n5)) nL⟩
      · rw [ev, vN_len, vN_len]
        exact Nat.le_trans lall (Nat.le_of_lt (line5 hl))
      · rw [upd_same, ev, tk, List.flatMap_append, List.map_append]
        unfold vN
        rw [List.map_append]
        simp
    · obtain ⟨y5, y6, rfl, gL, s4⟩ := hp'
      have full : st.take (vN (st.map (·.1))).length = st := List.take_of_length_le (by simp)
      rw [full] at gL
      refine ⟨.ref L, rfl, L, _, rfl, .inl ⟨.inl (.inl gL), fun t nt => q _ t (((s1.trans s13).trans s4).trans (sameN nt)) (.inl (.inl ?_))⟩⟩
      rw [upd_same]
      unfold pieces M10.pcs
      rw [hst]
theorem ok_blocks {f g : Addr} {fd gd : FuncData} {m : Nat} (F : Fun K "blocks" "blocks" sBlocks f fd) (G : FnOk P w K mg base CX0 (m + 6) g gd ["row"] (spCuts K m)) (G' : Fun K "cuts" "cuts" sCuts g gd) (gG : mg "cuts" = some (.ref g)) (bG : Binds K gd ["row"] [])
    (ml : mg "len" = none) (mt : mg "tuple" = none) (mz : mg "zip" = none) : FnOk P w K mg base CX0 (m + 7) f fd ["row"] (spBlocks K m) := by
  refine F.ok scBlocks (fun vs H Q E h => ?_) (fun cdv A outer s H vs Q E hr h => ?_)
  · obtain ⟨a, ns, rfl, _⟩ := h
    rfl
  · obtain ⟨a, ns, rfl, hR, q⟩ := h
    refine ⟨_, pss_cons (ps_set (i := 1) scBlocks.nd rfl (.inl rfl) (pe_call G hr (by rfl) gG G'.kp bG .nil pass0 (pa_cons (pv 0) pa_nil)))
      (pss_cons (ps_set (i := 2) scBlocks.nd rfl (.inl rfl) (pe_op op_catA (pe_slice sl_tupA (pv 1) (po_some pe_int) po_none) (pe_tup (pa_cons (pe_callB call_len_seq (by rfl) ml PySem.boot_len (pa_cons (pv 0) pa_nil)) pa_nil))))
      (pss_one (ps_ret (pe_callTy call_tuple_of (by rfl) mt PyProof.Rows.boot_tuple (pa_cons (pe_lc (own := [("begin", 3), ("end", 4)]) (g := gTup K 2 (gCons (gName 3) (gCons (gName 4) gNil))) (tt := tYes)
        (te := tTup (tCons (tC (.str "block")) (tCons (tSl (rSlA K) (tVar 0) (tPart (tVar 3)) (tPart (tVar 4))) tNil)))
        rfl scBlocks.nd (pi_zipA (by rfl) mz (pa_cons (pv 1) (pa_cons (pv 2) pa_nil))) (blkOk_by (N := ["row", "begins", "ends", "begin", "end"]) (sc := defScope sBlocks) (by decide +kernel))
        (fun _ _ _ _ _ => pg_tup rfl (pgs_cons (pg_name (i := 3) scBlocks.nd rfl (Or.inl rfl) (hf := Or.inr rfl)) (pgs_cons (pg_name (i := 4) scBlocks.nd rfl (Or.inl rfl) (hf := Or.inr rfl)) pgs_nil))) (fun _ _ _ _ _ => pts_nil)
        (fun _ _ _ _ _ => pe_tup (pa_cons pe_str (pa_cons (pe_slice sl_tupA (pv 0) (po_some (pv 3)) (po_some (pv 4))) pa_nil)))) pa_nil))))), ?_⟩
    refine ⟨.ref a, rfl, a, ns, rfl, hR, fun H1 b s1 hb => ?_⟩
    obtain ⟨us, l0, hT, hN, _, _, _, _, h2, hl⟩ := hR.same s1
    have hlu := hN.len
    have con := pieces_cont h2
    have lp := pieces_fst_len h2
    have bnd := con.bnd.2
    generalize pieces ns = pz at hb con lp bnd q ⊢
    obtain ⟨z0, r0, rfl⟩ : ∃ z r, pz = z :: r := by
      cases pz with
      | nil =>
        have : 0 = ns.length := con
        omega
      | cons z r => exact ⟨z, r, rfl⟩
    have ee := con.ends
    refine ⟨.ref b, rfl, 1, rfl, b, _, rfl, hb, fun hw => ?_, fun hw t nt => ?_⟩
    · exfalso
      have := hw.1
      rw [show (1 : Int) = ((1 : Nat) : Int) from rfl, HT.sIx_nat, vN_len, List.length_map, List.length_cons] at this
      omega
    have st := sameN (o := .tup (cutV (vN ((z0 :: r0).map (·.1))) (some 1) none)) nt
    have ht : SqT K (upd H1 t (.tup (cutV (vN ((z0 :: r0).map (·.1))) (some 1) none))) t (vN (r0.map (·.1))) := by
      refine .inl (.inl ?_)
      rw [upd_same]
      refine congrArg (fun z => some (HO.tup z)) ?_
      unfold cutV
      rw [show (1 : Int) = ((1 : Nat) : Int) from rfl, HT.sIx_nat, HT.sIx_none, vN_len, List.length_map, List.length_cons, Nat.min_eq_left (by omega)]
      refine List.take_of_length_le ?_
      simp
    generalize upd H1 t (.tup (cutV (vN ((z0 :: r0).map (·.1))) (some 1) none)) = H2 at st ht ⊢
    refine ⟨.ref a, rfl, a, us, rfl, .inr (sameT st hT), (show 1 ≤ sizeLine from by decide), fun t3 n3 => cat_any (sameT (sameN n3) ht) (.inl (.inl upd_same)) (Nat.le_trans (show (vN (r0.map (·.1))).length + 1 ≤ 100001 by rw [vN_len, List.length_map]; rw [List.length_cons] at lp; omega) (by decide)) fun H3 e s3 he => ?_⟩
    have s13 := (st.trans (sameN (o := .tup [.int ((us.length : Nat) : Int)]) n3)).trans s3
    have he : SqT K H3 e (vN ((z0 :: r0).map (·.2))) := by
      rw [← ee, vN_app, ← hlu]
      exact he
    have hb := sameT s13 hb
    have hT := sameT s13 hT
    have hN := hN.up (.of (K := K) s13)
    generalize z0 :: r0 = pz at he hb lp bnd q ⊢
    refine ⟨.ref b, rfl, .ref e, rfl, b, e, _, _, rfl, .inr ⟨hb, he, fun D nD => ?_⟩⟩
    refine lc_zipT (xs := vN (pz.map (·.1))) (ys := vN (pz.map (·.2))) (fun i H' => i ≤ pz.length ∧ ∃ ws, H' D = some (.lst ws) ∧ NdsV K H' ws ((pz.take i).map fun z => Nd.blk (pce ns z)) ∧ Same H3 H') ⟨Nat.zero_le _, [], upd_same, .nil, sameN nD⟩ (fun i H' hp' => ?_) (fun i x y T H' hx hy hp' nT => ?_) (fun i H' hp' hi => ?_)
    · obtain ⟨_, _, _, _, s4⟩ := hp'
      exact ⟨sameT s4 hb, sameT s4 he⟩
    · obtain ⟨hi, ws, gD, dD, s4⟩ := hp'
      obtain ⟨z, hz, rfl⟩ : ∃ z, pz[i]? = some z ∧ x = .int (z.1 : Nat) := by
        rw [List.getElem?_map, List.getElem?_map, Option.map_map] at hx
        obtain ⟨z, hz, rfl⟩ := Option.map_eq_some_iff.mp hx
        exact ⟨z, hz, rfl⟩
      have ey : y = .int (z.2 : Nat) := by
        rw [List.getElem?_map, List.getElem?_map, hz] at hy
        exact (Option.some.inj hy).symm
      subst ey
      have hzb := bnd z (List.mem_of_getElem? hz)
      have tk : pz.take (i + 1) = pz.take i ++ [z] := take_more hz
      have sT := sameN (o := .tup [V.int (z.1 : Nat), .int (z.2 : Nat)]) nT
      have hil := (List.getElem?_eq_some_iff.mp hz).1
      refine ⟨T, [.int (z.1 : Nat), .int (z.2 : Nat)], rfl, .inl (.inl upd_same), rfl, _, [.int (z.2 : Nat)], rfl, _, [], rfl, rfl, rfl, ?_⟩
      refine ⟨.ref a, rfl, _, rfl, _, rfl, _, rfl, _, rfl, slice_any (sameT (s4.trans sT) hT) (by omega) (by omega) fun H5 t5 s5 h5 => ⟨(show 2 ≤ sizeLine from by decide), fun t6 n6 => ?_⟩⟩
      have s6 := sameN (o := .tup [.str "block", .ref t5]) n6
      have s56 := sT.trans (s5.trans s6)
      have nb : NdV K (upd H5 t6 (.tup [.str "block", .ref t5])) (.ref t6) (.blk (pce ns z)) := .ofBlk (.inl (.inl upd_same)) (sameT s6 h5) (ndsV_drop z.1 ((hN.up (.of (K := K) (s4.trans s56))).take z.2))
      have gD6 := s56 _ _ gD
      have dD6 := dD.up (.of (K := K) s56)
      refine ⟨ws, gD6, ?_, hil, ws ++ [.ref t6], upd_same, ?_, sameW (s4.trans s56) nD⟩
      · rw [dD.len, List.length_map]
        exact line5 (small_take (by omega))
      · rw [tk, List.map_append]
        have t9 : Tups K (upd H5 t6 (.tup [.str "block", .ref t5])) (upd (upd H5 t6 (.tup [.str "block", .ref t5])) D (.lst (ws ++ [.ref t6]))) := (But.set (p := D)).tups gD6
        exact (dD6.up t9).app (.one (nb.up t9))
    · obtain ⟨hil, ws, gD, dD, s4⟩ := hp'
      have full : pz.take i = pz := List.take_of_length_le (by
        rw [vN_len, vN_len, List.length_map, List.length_map] at hi
        omega)
      rw [full] at dD
      exact ⟨D, ws, rfl, .inl ⟨.inl (.inl gD), fun t nt => q _ t ws (((s1.trans s13).trans s4).trans (sameN nt)) (.inl (.inl upd_same)) (dD.up (.of (sameN nt)))⟩⟩
end
theorem unb_tail : ∀ {ns : List Nd} {a : Nd}, Unb (a :: ns) → Unb ns
  | [], _, _ => trivial
  | b :: r, a, h => h.2
theorem unb_drop : ∀ (k : Nat) {ns : List Nd}, Unb ns → Unb (ns.drop k)
  | 0, _, h => h
  | k + 1, [], h => h
  | k + 1, a :: r, h => unb_drop k (unb_tail h)
theorem unb_take : ∀ (k : Nat) {ns : List Nd}, Unb ns → Unb (ns.take k)
  | 0, _, _ => trivial
  | k + 1, [], h => h
  | 1, a :: r, h => trivial
  | k + 2, [a], h => trivial
  | k + 2, a :: b :: r, h => ⟨h.1, unb_take (k + 1) (ns := b :: r) h.2⟩
theorem ok_piece {ns : List Nd} {l : Nat} {z : Nat × Nat} (ok : OkAll ns l) (un : Unb ns) (h1 : z.1 + 2 ≤ z.2) (h2 : z.2 ≤ z.1 + 3) (h3 : z.2 ≤ ns.length) : Ok (.blk (pce ns z)) (l + 1) := by
  have len : (pce ns z).length = z.2 - z.1 := by
    unfold pce
    rw [List.length_drop, List.length_take]
    omega
  unfold Ok
  refine ⟨by omega, by omega, by omega, OkAll.of fun n hn => ok.mem n ?_, ?_⟩
  · unfold pce at hn
    exact List.mem_of_mem_take (List.mem_of_mem_drop hn)
  · exact unb_drop z.1 (unb_take z.2 un)
theorem ok_pieces {ns : List Nd} {l : Nat} (ok : OkAll ns l) (un : Unb ns) (h : 2 ≤ ns.length) : OkAll ((pieces ns).map fun z => Nd.blk (pce ns z)) (l + 1) := OkAll.of fun n hn => by
  obtain ⟨z, hz, rfl⟩ := List.mem_map.mp hn
  have := (pieces_cont h).bnd.2 z hz
  exact ok_piece ok un this.1 this.2.1 this.2.2
/-! ### rows -/
section
theorem wideL : ∀ l : Nat, l ≤ 7 → wide l ≤ 1000000
  | 0, _ => by decide
  | 1, _ => by decide
  | 2, _ => by decide
  | 3, _ => by decide
  | 4, _ => by decide
  | 5, _ => by decide
  | 6, _ => by decide
  | 7, _ => by decide
  | l + 8, h => by omega
def bks (ns : List Nd) : List Nd := (pieces ns).map fun z => Nd.blk (pce ns z)
noncomputable def Nx (ns : List Nd) : List Nd := mkRuns (bks ns)
noncomputable def nx : Nat → List Nd → List Nd
  | 0, r => r
  | i + 1, r => Nx (nx i r)
theorem base_mkRun {p : Nd × Nat} (h : p.1.isRun = false) : (mkRun p).base = p.1 := by
  unfold mkRun
  split
  · exact base_of_no h
  · rfl
theorem unb_of : ∀ {ns : List Nd}, (∀ (i : Nat) (x y : Nd), ns[i]? = some x → ns[i + 1]? = some y → x.base ≠ y.base) → Unb ns
  | [], _ => trivial
  | [_], _ => trivial
  | a :: b :: r, h => ⟨h 0 a b rfl rfl, unb_of (ns := b :: r) fun i x y h1 h2 => h (i + 1) x y h1 h2⟩
theorem unb_runs {gs : List (Nd × Nat)} (nr : ∀ p ∈ gs, p.1.isRun = false) (u : ∀ (i : Nat) p q, gs[i]? = some p → gs[i + 1]? = some q → p.1 ≠ q.1) : Unb (gs.map mkRun) := unb_of fun i x y hx hy => by
  rw [List.getElem?_map] at hx hy
  obtain ⟨p, hp, rfl⟩ := Option.map_eq_some_iff.mp hx
  obtain ⟨q, hq, rfl⟩ := Option.map_eq_some_iff.mp hy
  rw [base_mkRun (nr p (List.mem_of_getElem? hp)), base_mkRun (nr q (List.mem_of_getElem? hq))]
  exact u i p q hp hq
theorem grp_ne {ns : List Nd} (h : ns ≠ []) : grp ns ≠ [] := by
  rcases List.eq_nil_or_concat ns with rfl | ⟨r, n, rfl⟩
  · exact absurd rfl h
  · rw [List.concat_eq_append, grp_app]
    obtain ⟨i, c, e⟩ := stepG_last (grp r) n
    rw [e]
    simp
theorem Nx_ok {ns : List Nd} {l : Nat} (ok : OkAll ns l) (un : Unb ns) (h : 2 ≤ ns.length) (hl : ns.length ≤ 1000) : OkAll (Nx ns) (l + 1) ∧ Unb (Nx ns) ∧ 1 ≤ (Nx ns).length ∧ 2 * (Nx ns).length ≤ ns.length := by
  have okb : OkAll (bks ns) (l + 1) := ok_pieces ok un h
  have nr : ∀ n ∈ bks ns, n.isRun = false := fun n hn => by
    obtain ⟨z, _, rfl⟩ := List.mem_map.mp hn
    rfl
  have lc := (pieces_cont h).len
  have lb : (bks ns).length = (pieces ns).length := List.length_map _
  have lg := grp_len (bks ns)
  have nb : bks ns ≠ [] := fun z => by
    have e : (pieces ns).length = 0 := by rw [← lb, z]; rfl
    have c := pieces_cont h
    rw [List.eq_nil_of_length_eq_zero e] at c
    have c : 0 = ns.length := c
    omega
  have ng := grp_ne nb
  refine ⟨mkRuns_ok okb nr (Nat.le_trans (show (bks ns).length ≤ 1000 by omega) (by decide)), ?_, ?_, ?_⟩
  · exact unb_runs (fun p hp => nr _ (grp_foot _ p hp).1) (grp_unl _ _ rfl)
  · unfold Nx mkRuns
    rw [List.length_map]
    exact List.length_pos_iff.mpr ng
  · unfold Nx mkRuns
    rw [List.length_map]
    omega
/-- a row of level j -/
def Lv (r0 : List Nd) (j : Nat) : Prop := OkAll (nx j r0) j ∧ Unb (nx j r0) ∧ 1 ≤ (nx j r0).length ∧ (nx j r0).length * 2 ^ j ≤ 300
theorem Lv.small {r0 : List Nd} {j : Nat} (h : Lv r0 j) : j ≤ 8 ∧ (nx j r0).length ≤ 300 := by
  obtain ⟨_, _, h3, h4⟩ := h
  have p : 1 ≤ 2 ^ j := Nat.one_le_two_pow
  constructor
  · rcases Nat.lt_or_ge 8 j with z | z
    · have e : 2 ^ 9 ≤ 2 ^ j := Nat.pow_le_pow_right (by decide) z
      have : 1 * 2 ^ j ≤ (nx j r0).length * 2 ^ j := Nat.mul_le_mul_right _ h3
      omega
    · exact z
  · have : (nx j r0).length * 1 ≤ (nx j r0).length * 2 ^ j := Nat.mul_le_mul_left _ p
    omega
theorem Lv.two {r0 : List Nd} {j : Nat} (h : Lv r0 j) (k : 2 ≤ (nx j r0).length) : j ≤ 7 := by
  obtain ⟨_, _, _, h4⟩ := h
  rcases Nat.lt_or_ge 7 j with z | z
  · have e : 2 ^ 8 ≤ 2 ^ j := Nat.pow_le_pow_right (by decide) z
    have : 2 * 2 ^ j ≤ (nx j r0).length * 2 ^ j := Nat.mul_le_mul_right _ k
    omega
  · exact z
theorem Lv.next {r0 : List Nd} {j : Nat} (h : Lv r0 j) (k : 2 ≤ (nx j r0).length) : Lv r0 (j + 1) ∧ 2 * (nx (j + 1) r0).length ≤ (nx j r0).length := by
  have s := h.small
  obtain ⟨h1, h2, h3, h4⟩ := h
  obtain ⟨k1, k2, k3, k4⟩ := Nx_ok h1 h2 k (by omega)
  refine ⟨⟨k1, k2, k3, ?_⟩, k4⟩
  show (Nx (nx j r0)).length * 2 ^ (j + 1) ≤ 300
  rw [Nat.pow_succ, Nat.mul_comm (2 ^ j) 2, ← Nat.mul_assoc]
  refine Nat.le_trans (Nat.mul_le_mul_right _ ?_) h4
  omega
/-- how many rows -/
def Top (r0 : List Nd) (t : Nat) : Prop := (r0 = [] ∧ t = 0) ∨ (r0 ≠ [] ∧ ∃ s, t = s + 1 ∧ (nx s r0).length ≤ 1 ∧ ∀ j, j < s → 1 < (nx j r0).length)
theorem Top.one {r0 : List Nd} {t t' : Nat} (h : Top r0 t) (k : Top r0 t') : t = t' := by
  rcases h with ⟨h1, h2⟩ | ⟨h1, s, h2, h3, h4⟩
  · rcases k with ⟨_, k2⟩ | ⟨k1, _⟩
    · omega
    · exact absurd h1 k1
  · rcases k with ⟨k1, _⟩ | ⟨_, s', k2, k3, k4⟩
    · exact absurd k1 h1
    · rcases Nat.lt_trichotomy s s' with z | z | z
      · have := k4 s z
        omega
      · omega
      · have := h4 s' z
        omega
theorem giv_row0 {gs : List (Nd × Nat)} (g : Giv gs) (n : gs ≠ []) (l : gs.length ≤ 300) : Lv (gs.map mkRun) 0 := by
  have nr : ∀ p ∈ gs, p.1.isRun = false := fun p hp => by
    obtain ⟨⟨k, e, _⟩, _⟩ := g.1 p hp
    rw [e]
    rfl
  refine ⟨OkAll.of fun x hx => ?_, unb_runs nr g.2, ?_, ?_⟩
  · obtain ⟨p, hp, rfl⟩ := List.mem_map.mp hx
    obtain ⟨⟨k, e, hk⟩, c1, c2⟩ := g.1 p hp
    have o : Ok p.1 0 := by
      rw [e]
      unfold Ok
      exact ⟨rfl, hk⟩
    unfold mkRun
    split
    · exact o
    · unfold Ok
      exact ⟨by omega, Nat.le_trans c2 (by decide), nr p hp, o⟩
  · show 1 ≤ (gs.map mkRun).length
    rw [List.length_map]
    exact List.length_pos_iff.mpr n
  · show (gs.map mkRun).length * 2 ^ 0 ≤ 300
    rw [List.length_map]
    omega
/-- the rows as data -/
noncomputable def rdat (r0 : List Nd) (t : Nat) : List PyData := (List.range t).map fun j => .tuple (datAll (nx j r0))
theorem rdat_more (r0 : List Nd) (t : Nat) : rdat r0 (t + 1) = rdat r0 t ++ [.tuple (datAll (nx t r0))] := by
  unfold rdat
  rw [List.range_succ, List.map_append]
  rfl
end
end C25

set_option Elab.async false
set_option linter.all false
set_option maxRecDepth 100000
namespace C25
open PySem PySem.Spec PyProof.Rows L2 Loc RZ
/-! ### made_runs and the law's own joining -/
section
variable {P : Program} {w : World} {K : PySem.W.Frag} {mg : Str → Option Value} {base : Heap}
theorem scRunOf : FnScope ["node", "count"] ["node", "count"] (defScope sRunOf) := ⟨rfl, rfl, rfl, by decide +kernel, rfl, by decide +kernel, by decide +kernel⟩
theorem scMade : FnScope ["nodes", "made", "begin", "end"] ["nodes"] (defScope sMade) := ⟨rfl, rfl, rfl, by decide +kernel, rfl, by decide +kernel, by decide +kernel⟩
def spRunOf (K : PySem.W.Frag) : Sp := fun vs H Q _ => ∃ (v : V) (n : Nd) (z : Int) (c : Nat), vs = [v, .int z] ∧ z = c ∧ NdV K H v n ∧ ∀ H' u, Same H H' → NdV K H' u (mkRun (n, c)) → Q u H'
theorem ok_runof {f : Addr} {fd : FuncData} {k : Nat} (F : Fun K "run_of" "run_of" sRunOf f fd) : FnOk P w K mg base CX0 (k + 1) f fd ["node", "count"] (spRunOf K) := by
  refine F.ok scRunOf (fun vs H Q E h => ?_) (fun cdv A outer s H vs Q E hr h => ?_)
  · obtain ⟨v, n, z, c, rfl, _⟩ := h
    rfl
  · obtain ⟨v, n, z, c, rfl, rfl, hn, q⟩ := h
    refine ⟨_, pss_cons (ps_if (pt_cmpR op_eq (pv 1) pe_int (nomark _)) (pss_one (ps_ret (pv 0))) pss_nil) (pss_one (ps_ret (pe_tup (pa_cons pe_str (pa_cons (pv 0) (pa_cons (pv 1) pa_nil)))))), ?_⟩
    refine ⟨_, rfl, rfl, _, rfl, ite2 (fun e => ?_) (fun e => ?_)⟩
    · have e0 : (c : Int) = 1 := V.int.inj (of_decide_eq_true e)
      have e1 : c = 1 := by omega
      refine ⟨v, rfl, q H v (Same.refl H) ?_⟩
      unfold mkRun
      rw [if_pos e1]
      exact hn
    · have e1 : c ≠ 1 := fun z => e (by rw [z]; rfl)
      refine ⟨v, rfl, _, rfl, (show 3 ≤ sizeLine from by decide), fun p hp => q _ _ (sameN hp) ?_⟩
      unfold mkRun
      rw [if_neg e1]
      exact .ofRun (.inl (.inl upd_same)) (hn.up (.of (sameN hp)))
def spMade (K : PySem.W.Frag) : Sp := fun vs H Q _ => ∃ (a : Addr) (us : List V) (ns : List Nd) (l : Nat), vs = [.ref a] ∧ SqT K H a us ∧ NdsV K H us ns ∧ OkAll ns l ∧ l ≤ 20 ∧ ns.length ≤ 100000 ∧
  ∀ H' p ws, Same H H' → H' p = some (.tup ws) → NdsV K H' ws (mkRuns ns) → Q (.ref p) H'
theorem grp_take {ns : List Nd} {b e : Nat} {x : Nd} (hbe : b < e) (he : e ≤ ns.length) (h : ∀ j, b ≤ j → j < e → ns[j]? = some x) (hl : (ns.take b).getLast? ≠ some x) : grp (ns.take e) = grp (ns.take b) ++ [(x, e - b)] := by
  have : ns.take e = ns.take b ++ List.replicate ((e - b - 1) + 1) x := by
    refine List.ext_getElem? fun j => ?_
    rw [List.getElem?_append, List.getElem?_take, List.getElem?_take, List.length_take, List.getElem?_replicate]
    rcases Nat.lt_or_ge j b with c | c
    · rw [if_pos (by omega), if_pos (by omega), if_pos c]
    · rw [if_neg (show ¬ j < min b ns.length by omega)]
      rcases Nat.lt_or_ge j e with c2 | c2
      · rw [if_pos c2, if_pos (by omega), h j c c2]
      · rw [if_neg (by omega), if_neg (by omega)]
  rw [this, grp_rep _ _ hl]
  congr 3
  omega
theorem ok_made {f g : Addr} {fd gd : FuncData} {k : Nat} (F : Fun K "made_runs" "made_runs" sMade f fd) (R : Fun K "run_of" "run_of" sRunOf g gd) (gR : mg "run_of" = some (.ref g)) (bR : Binds K gd ["node", "count"] [])
    (ml : mg "len" = none) (mt : mg "tuple" = none) : FnOk P w K mg base CX0 (k + 2) f fd ["nodes"] (spMade K) := by
  have GR : FnOk P w K mg base CX0 (k + 1) g gd ["node", "count"] (spRunOf K) := ok_runof R
  refine F.ok scMade (fun vs H Q E h => ?_) (fun cdv A outer s H vs Q E hr h => ?_)
  · obtain ⟨a, us, ns, l, rfl, _⟩ := h
    rfl
  · obtain ⟨a, us, ns, l, rfl, hS, hn, ok, l20, hlen, q⟩ := h
    refine ⟨_, pss_cons (ps_set (i := 1) scMade.nd rfl (.inl rfl) (pe_lst pa_nil))
      (pss_cons (ps_set (i := 2) scMade.nd rfl (.inl rfl) pe_int)
      (pss_cons (ps_while PassesOwn.never (pt_cmpR op_lt (pv 2) (pe_callB call_len_seq (by rfl) ml PySem.boot_len (pa_cons (pv 0) pa_nil)) (nomark _))
        (pss_cons (ps_set (i := 3) scMade.nd rfl (.inl rfl) (pe_op op_add (pv 2) pe_int))
        (pss_cons (ps_while PassesOwn.never (PW.pt (pw_and (pt_cmpR op_lt (pv 3) (pe_callB call_len_seq (by rfl) ml PySem.boot_len (pa_cons (pv 0) pa_nil)) (nomark _))
            (pw_and1 (pt_cmpR (op_eqD hr.units) (pe_ix ix_tup (pv 0) (pv 3) (fun _ _ => rfl)) (pe_ix ix_tup (pv 0) (pv 2) (fun _ _ => rfl)) (nomark _)))))
          (pss_one (ps_aug (i := 3) scMade.nd rfl (.inl rfl) pe_int ip_add)))
        (pss_cons (ps_expr (pe_bm PySem.F.plainAttrs_list PySem.F.slot_list_append PySem.F.type_list_append mt_append (pv 1)
            (pa_cons (pe_call GR hr (by rfl) gR R.kp bR .nil pass0 (pa_cons (pe_ix ix_tup (pv 0) (pv 2) (fun _ _ => rfl)) (pa_cons (pe_op op_sub (pv 3) (pv 2)) pa_nil))) pa_nil)))
        (pss_one (ps_set (i := 2) scMade.nd rfl (.inl rfl) (pv 3)))))))
      (pss_one (ps_ret (pe_callTy call_tuple_of (by rfl) mt PyProof.Rows.boot_tuple (pa_cons (pv 1) pa_nil)))))), ?_⟩
    refine ⟨(show 0 ≤ sizeLine from by decide), fun M hM => ?_⟩
    refine ⟨fun m σ H' => ∃ (b : Nat) (ws : List V) (y3 : Option V), m = ns.length - b ∧ b ≤ ns.length ∧ σ = [some (.ref a), some (.ref M), some (.int b), y3] ∧ H' M = some (.lst ws) ∧ NdsV K H' ws (mkRuns (ns.take b)) ∧ Same H H' ∧
        (∀ x, ns[b]? = some x → (ns.take b).getLast? ≠ some x), ⟨ns.length, 0, [], none, rfl, Nat.zero_le _, rfl, upd_same, ?_, sameN hM, fun x _ => by simp⟩, ?_⟩
    · rw [List.take_zero]
      exact .nil
    rintro m σ H1 ⟨b, ws, y3, rfl, hb, rfl, e1, e2, s1, bd⟩
    have hS1 := sameT s1 hS
    have hn1 : NdsV K H1 us ns := hn.up (.of s1)
    have hlu := hn.len
    refine ⟨_, rfl, .ref a, rfl, a, us, rfl, .inr hS1, _, _, rfl, rfl, _, rfl, ite2 (fun e => ?_) (fun e => ?_)⟩
    · have hlt : b < ns.length := by
        have : (b : Int) < ((us.length : Nat) : Int) := of_decide_eq_true e
        omega
      obtain ⟨x, hx⟩ := get_of hlt
      obtain ⟨vx, hvx, kx⟩ := hn1.at hx
      have okx := ok.mem x (List.mem_of_getElem? hx)
      refine ⟨fun σ' H' => ∃ (b' : Nat) (ws : List V) (y3 : Option V), b < b' ∧ b' ≤ ns.length ∧ σ' = [some (.ref a), some (.ref M), some (.int b'), y3] ∧ H' M = some (.lst ws) ∧ NdsV K H' ws (mkRuns (ns.take b')) ∧ Same H H' ∧ (∀ x, ns[b']? = some x → (ns.take b').getLast? ≠ some x),
        fun σ' H' hN => ?_, ?_⟩
      · obtain ⟨b', w', y, k1, k2, k3⟩ := hN
        exact ⟨ns.length - b', by omega, b', w', y, rfl, k2, k3⟩
      refine ⟨_, rfl, _, 1, rfl, rfl, ?_⟩
      refine ⟨fun m σ H' => ∃ e : Nat, m = ns.length - e ∧ b < e ∧ e ≤ ns.length ∧ σ = [some (.ref a), some (.ref M), some (.int b), some (.int e)] ∧ H' = H1 ∧ ∀ j, b ≤ j → j < e → ns[j]? = some x,
        ⟨_, b + 1, rfl, by omega, hlt, ?_, rfl, fun j j1 j2 => by rw [show j = b by omega]; exact hx⟩, ?_⟩
      · show _ = [some (V.ref a), some (V.ref M), some (V.int b), some (V.int ((b + 1 : Nat) : Int))]
        rw [Int.natCast_add]
        rfl
      rintro m σ Hc ⟨e', rfl, be, he, rfl, rfl, hj⟩
      refine ⟨_, rfl, .ref a, rfl, a, us, rfl, .inr hS1, _, _, rfl, rfl, _, rfl, ?_⟩
      by_cases c : e' < ns.length
      · have d1 : decide ((e' : Int) < ((us.length : Nat) : Int)) = true := decide_eq_true (by omega)
        rw [d1]
        obtain ⟨y, hy⟩ := get_of c
        obtain ⟨vy, hvy, ky⟩ := hn1.at hy
        have oky := ok.mem y (List.mem_of_getElem? hy)
        refine ⟨.ref a, rfl, _, rfl, a, us, _, vy, rfl, rfl, hS1, atI_nat hvy, .ref a, rfl, _, rfl, a, us, _, vx, rfl, rfl, hS1, atI_nat hvx, _, _, ky, kx, shaped_dat oky l20, shaped_dat okx l20, _, rfl, ?_⟩
        by_cases eq : y = x
        · rw [eqv_yes eq]
          refine ⟨fun σ' H' => σ' = [some (.ref a), some (.ref M), some (.int b), some (.int ((e' + 1 : Nat) : Int))] ∧ H' = Hc, fun σ' H' hN => ⟨ns.length - (e' + 1), by omega, e' + 1, rfl, by omega, c, hN.1, hN.2, fun j j1 j2 => ?_⟩, ?_⟩
          · rcases Nat.lt_or_ge j e' with z | z
            · exact hj j j1 z
            · rw [show j = e' by omega, hy, eq]
          · refine ⟨_, rfl, e', 1, rfl, rfl, ?_, rfl⟩
            rw [Int.natCast_add]
            rfl
        · rw [eqv_no eq]
          have gt := grp_take be he hj (bd x hx)
          refine ⟨.ref M, rfl, .inl ⟨rfl, _, .inl (.inl e1)⟩, .ref a, rfl, _, rfl, a, us, _, vx, rfl, rfl, hS1, atI_nat hvx, _, rfl, _, rfl, _, _, rfl, rfl, vx, x, _, e' - b, rfl, by omega, kx, fun H2 u s2 hu => ⟨M, _, _, rfl, rfl, s2 _ _ e1, ?_, _, rfl, e', ws ++ [u], some (.int e'), be, he, rfl, upd_same, ?_, sameW (s1.trans s2) hM, fun z hz => ?_⟩⟩
          · rw [e2.len]
            refine line5 ?_
            have g1 := grp_len (ns.take b)
            show ((grp (ns.take b)).map mkRun).length ≤ 100000
            rw [List.length_map]
            rw [List.length_take] at g1
            omega
          · have : mkRuns (ns.take e') = mkRuns (ns.take b) ++ [mkRun (x, e' - b)] := by
              unfold mkRuns
              rw [gt, List.map_append]
              rfl
            rw [this]
            have t2 : Tups K H2 (upd H2 M (.lst (ws ++ [u]))) := (But.set (p := M)).tups (s2 _ _ e1)
            exact ((e2.up (.of s2)).up t2).app (.one (hu.up t2))
          · rw [hy] at hz
            cases hz
            have : (ns.take e').getLast? = some x := by
              rw [List.getLast?_eq_getElem?, List.length_take, List.getElem?_take, if_pos (by omega), show min e' ns.length - 1 = e' - 1 by omega]
              exact hj (e' - 1) (by omega) (by omega)
            rw [this]
            intro z
            exact eq (Option.some.inj z).symm
      · have d1 : decide ((e' : Int) < ((us.length : Nat) : Int)) = false := decide_eq_false (by omega)
        rw [d1]
        have gt := grp_take be he hj (bd x hx)
        refine ⟨.ref M, rfl, .inl ⟨rfl, _, .inl (.inl e1)⟩, .ref a, rfl, _, rfl, a, us, _, vx, rfl, rfl, hS1, atI_nat hvx, _, rfl, _, rfl, _, _, rfl, rfl, vx, x, _, e' - b, rfl, by omega, kx, fun H2 u s2 hu => ⟨M, _, _, rfl, rfl, s2 _ _ e1, ?_, _, rfl, e', ws ++ [u], some (.int e'), be, he, rfl, upd_same, ?_, sameW (s1.trans s2) hM, fun z hz => ?_⟩⟩
        · rw [e2.len]
          refine line5 ?_
          have g1 := grp_len (ns.take b)
          show ((grp (ns.take b)).map mkRun).length ≤ 100000
          rw [List.length_map]
          rw [List.length_take] at g1
          omega
        · have : mkRuns (ns.take e') = mkRuns (ns.take b) ++ [mkRun (x, e' - b)] := by
            unfold mkRuns
            rw [gt, List.map_append]
            rfl
          rw [this]
          have t2 : Tups K H2 (upd H2 M (.lst (ws ++ [u]))) := (But.set (p := M)).tups (s2 _ _ e1)
          exact ((e2.up (.of s2)).up t2).app (.one (hu.up t2))
        · rw [List.getElem?_eq_none_iff.mpr (by omega)] at hz
          cases hz
    · have hb' : b = ns.length := by
        have : ¬ (b : Int) < ((us.length : Nat) : Int) := fun z => e (decide_eq_true z)
        omega
      rw [hb', List.take_length] at e2
      refine ⟨.ref M, rfl, M, _, rfl, .inl ⟨.inl (.inl e1), fun t ht => q _ t _ (s1.trans (sameN ht)) upd_same (e2.up (.of (sameN ht)))⟩⟩
end
section
variable {P : Program} {w : World} {K : PySem.W.Frag} {mg : Str → Option Value} {base : Heap}
/-- tuples that hold the rows -/
def RowsV (K : PySem.W.Frag) (H : Hp) (r0 : List Nd) (ws : List V) (t : Nat) : Prop := ws.length = t ∧ ∀ (i : Nat) (v : V), ws[i]? = some v → ∃ (ra : Addr) (us : List V), v = .ref ra ∧ SqT K H ra us ∧ NdsV K H us (nx i r0)
theorem RowsV.nil {H : Hp} {r0 : List Nd} : RowsV K H r0 [] 0 := ⟨rfl, fun i v h => by simp at h⟩
theorem RowsV.up {H H' : Hp} {r0 : List Nd} {ws : List V} {t : Nat} (h : RowsV K H r0 ws t) (e : Tups K H H') : RowsV K H' r0 ws t := ⟨h.1, fun i v hv => by
  obtain ⟨ra, us, h1, h2, h3⟩ := h.2 i v hv
  exact ⟨ra, us, h1, e _ _ h2, h3.up e⟩⟩
theorem RowsV.app {H : Hp} {r0 : List Nd} {ws : List V} {t : Nat} {ra : Addr} {us : List V} (h : RowsV K H r0 ws t) (ht : SqT K H ra us) (hn : NdsV K H us (nx t r0)) : RowsV K H r0 (ws ++ [.ref ra]) (t + 1) := by
  refine ⟨by rw [List.length_append, h.1]; rfl, fun i v hv => ?_⟩
  by_cases c : i < ws.length
  · rw [List.getElem?_append_left c] at hv
    exact h.2 i v hv
  · rw [List.getElem?_append_right (by omega)] at hv
    have e0 : i - ws.length = 0 := by
      rcases Nat.eq_zero_or_pos (i - ws.length) with z' | z'
      · exact z'
      · rw [List.getElem?_eq_none_iff.mpr (by simp; omega)] at hv
        cases hv
    rw [e0] at hv
    have hv := Option.some.inj hv
    have e1 : i = t := by rw [← h.1]; omega
    rw [e1]
    exact ⟨ra, us, hv.symm, ht, hn⟩
theorem scRows : FnScope ["runs", "row", "rows", "element", "count"] ["runs"] (defScope sRows) := ⟨rfl, rfl, rfl, by decide +kernel, rfl, by decide +kernel, by decide +kernel⟩
def spRows (K : PySem.W.Frag) : Sp := fun vs H Q _ => ∃ (a : Addr) (ws : List V) (gs : List (Nd × Nat)), vs = [.ref a] ∧ SqT K H a ws ∧ PrsV K H ws gs ∧ Giv gs ∧ gs.length ≤ 300 ∧
  ∀ H' p us t, Same H H' → SqT K H' p us → RowsV K H' (gs.map mkRun) us t → Top (gs.map mkRun) t → Q (.ref p) H'
theorem row_of {H : Hp} {ra : Addr} {us : List V} {r0 : List Nd} {j : Nat} (lv : Lv r0 j) (hT : SqT K H ra us) (hn : NdsV K H us (nx j r0)) (h2 : 2 ≤ (nx j r0).length) : RowV K 16 H ra (nx j r0) := by
  have s := lv.small
  have s7 := lv.two h2
  refine ⟨us, j, hT, hn, lv.1, lv.2.1, wideL j (by omega), fun n hn => ?_, h2, by omega⟩
  have := ht_le n j (lv.1.mem n hn)
  split at this <;> omega
theorem ok_rows {f g1 g2 g3 : Addr} {fd e1 e2 e3 : FuncData} (F : Fun K "rows_of" "rows_of" sRows f fd) (B : FnOk P w K mg base CX0 23 g1 e1 ["row"] (spBlocks K 16)) (B' : Fun K "blocks" "blocks" sBlocks g1 e1) (gB : mg "blocks" = some (.ref g1)) (bB : Binds K e1 ["row"] [])
    (M : FnOk P w K mg base CX0 2 g2 e2 ["nodes"] (spMade K)) (M' : Fun K "made_runs" "made_runs" sMade g2 e2) (gM : mg "made_runs" = some (.ref g2)) (bM : Binds K e2 ["nodes"] [])
    (R : Fun K "run_of" "run_of" sRunOf g3 e3) (gR : mg "run_of" = some (.ref g3)) (bR : Binds K e3 ["node", "count"] []) (ml : mg "len" = none) (mt : mg "tuple" = none) : FnOk P w K mg base CX0 24 f fd ["runs"] (spRows K) := by
  have GR : FnOk P w K mg base CX0 1 g3 e3 ["node", "count"] (spRunOf K) := ok_runof R
  refine F.ok scRows (fun vs H Q E h => ?_) (fun cdv A outer s H vs Q E hr h => ?_)
  · obtain ⟨a, ws, gs, rfl, _⟩ := h
    rfl
  · obtain ⟨a, ws, gs, rfl, hT, hP, giv, l100, q⟩ := h
    have r1 := hr.mono (j := 1) (by omega)
    have r2 := hr.mono (j := 2) (by omega)
    refine ⟨_, pss_cons (ps_if (pt_cmpR op_eq (pe_callB call_len_seq (by rfl) ml PySem.boot_len (pa_cons (pv 0) pa_nil)) pe_int (nomark _)) (pss_one (ps_ret (pe_tup pa_nil))) pss_nil)
      (pss_cons (ps_set (i := 1) scRows.nd rfl (.inl rfl) (pe_callTy call_tuple_of (by rfl) mt PyProof.Rows.boot_tuple (pa_cons
          (pe_lc (own := [("element", 3), ("count", 4)]) (g := gTup K 2 (gCons (gName 3) (gCons (gName 4) gNil))) (tt := tYes) rfl scRows.nd (pi_tup (pv 0)) (blkOk_by (N := ["runs", "row", "rows", "element", "count"]) (sc := defScope sRows) (by decide +kernel))
            (fun _ _ _ _ _ => pg_tup rfl (pgs_cons (pg_name (i := 3) scRows.nd rfl (Or.inl rfl) (hf := Or.inr rfl)) (pgs_cons (pg_name (i := 4) scRows.nd rfl (Or.inl rfl) (hf := Or.inr rfl)) pgs_nil))) (fun _ _ _ _ _ => pts_nil)
            (fun _ _ _ _ _ => pe_call GR r1 (by rfl) gR R.kp bR .nil pass0 (pa_cons (pv 3) (pa_cons (pv 4) pa_nil)))) pa_nil)))
      (pss_cons (ps_set (i := 2) scRows.nd rfl (.inl rfl) (pe_lst (pa_cons (pv 1) pa_nil)))
      (pss_cons (ps_while PassesOwn.never (pt_cmpR op_gt (pe_callB call_len_seq (by rfl) ml PySem.boot_len (pa_cons (pv 1) pa_nil)) pe_int (nomark _))
        (pss_cons (ps_set (i := 1) scRows.nd rfl (.inl rfl) (pe_call M r2 (by rfl) gM M'.kp bM .nil pass0 (pa_cons (pe_call B hr (by rfl) gB B'.kp bB .nil pass0 (pa_cons (pv 1) pa_nil)) pa_nil)))
        (pss_one (ps_expr (pe_bm PySem.F.plainAttrs_list PySem.F.slot_list_append PySem.F.type_list_append mt_append (pv 2) (pa_cons (pv 1) pa_nil))))))
      (pss_one (ps_ret (pe_callTy call_tuple_of (by rfl) mt PyProof.Rows.boot_tuple (pa_cons (pv 2) pa_nil))))))), ?_⟩
    have hlw := PrsV.len hP
    refine ⟨.ref a, rfl, a, ws, rfl, .inr hT, rfl, _, rfl, ite2 (fun e => ?_) (fun e => ?_)⟩
    · have e0 : ((ws.length : Nat) : Int) = 0 := V.int.inj (of_decide_eq_true e)
      have e1 : gs = [] := List.eq_nil_of_length_eq_zero (by omega)
      subst e1
      exact ⟨(show 0 ≤ sizeLine from by decide), fun t nt => q _ t [] 0 (sameN nt) (.inl (.inl upd_same)) .nil (.inl ⟨rfl, rfl⟩)⟩
    have gne : gs ≠ [] := fun z => e (by
      have : ws.length = 0 := by rw [hlw, z]; rfl
      rw [this]
      rfl)
    refine ⟨.ref a, rfl, a, rfl, ⟨ws, hT⟩, fun D nD => ?_⟩
    refine lc_tup (xs := ws) (fun i H' => ∃ vs', H' D = some (.lst vs') ∧ NdsV K H' vs' ((gs.take i).map mkRun) ∧ Same H H') ⟨[], upd_same, .nil, sameN nD⟩ (fun i H' _ hp => ?_) (fun i u H' hu hp => ?_) (fun H1 hp => ?_)
    · obtain ⟨_, _, _, s1⟩ := hp
      exact sameT s1 hT
    · obtain ⟨vs', gD, dD, s1⟩ := hp
      obtain ⟨pr, ra, v, hpi, rfl, t1, t2⟩ := (PrsV.up (.of s1) hP).get hu
      have hil := (List.getElem?_eq_some_iff.mp hpi).1
      refine ⟨ra, _, rfl, t1, rfl, v, _, rfl, _, [], rfl, rfl, rfl, ?_⟩
      refine ⟨v, rfl, _, rfl, v, pr.1, _, pr.2, rfl, rfl, t2, fun H3 u3 s3 k3 => ⟨vs', s3 _ _ gD, ?_, vs' ++ [u3], upd_same, ?_, sameW (s1.trans s3) nD⟩⟩
      · rw [dD.len, List.length_map]
        exact line5 (small_take (by omega))
      · rw [take_more hpi, List.map_append]
        have t9 : Tups K H3 (upd H3 D (.lst (vs' ++ [u3]))) := (But.set (p := D)).tups (s3 _ _ gD)
        exact ((dD.up (.of s3)).up t9).app (.one (k3.up t9))
    obtain ⟨vs', gD, dD, s1⟩ := hp
    have full : gs.take ws.length = gs := List.take_of_length_le (by rw [hlw]; exact Nat.le_refl _)
    rw [full] at dD
    have lv0 := giv_row0 giv gne l100
    have rne : gs.map mkRun ≠ [] := fun z => gne (by simpa using z)
    generalize gs.map mkRun = r0 at q dD lv0 rne
    refine ⟨D, vs', rfl, .inl ⟨.inl (.inl gD), fun t nt => ⟨_, rfl, (show 1 ≤ sizeLine from by decide), fun L nL => ?_⟩⟩⟩
    have sL := sameN (o := .lst [V.ref t]) nL
    have st := (sameN (o := .tup vs') nt).trans sL
    refine ⟨fun m' σ H' => ∃ j ra us rv y3 y4, m' = (nx j r0).length ∧ (∀ i, i < j → 1 < (nx i r0).length) ∧ Lv r0 j ∧ σ = [some (.ref a), some (.ref ra), some (.ref L), y3, y4] ∧ SqT K H' ra us ∧ NdsV K H' us (nx j r0) ∧ H' L = some (.lst rv) ∧ RowsV K H' r0 rv (j + 1) ∧ Same H H',
      ⟨_, 0, t, vs', [.ref t], _, _, rfl, (fun i hi => absurd hi (Nat.not_lt_zero _)), lv0, rfl, .inl (.inl (sL _ _ upd_same)), dD.up (.of st), upd_same, ?_, s1.trans st⟩, ?_⟩
    · exact RowsV.nil.app (.inl (.inl (sL _ _ upd_same))) (dD.up (.of st))
    rintro m' σ H2 ⟨j, ra, us, rv, y3, y4, rfl, hj, lv, rfl, k1, k2, k3, k4, k5⟩
    have lus := k2.len
    refine ⟨.ref ra, rfl, ra, us, rfl, .inr k1, _, 1, rfl, rfl, _, rfl, ite2 (fun e => ?_) (fun e => ?_)⟩
    · have h2 : 2 ≤ (nx j r0).length := by
        have := of_decide_eq_true e
        omega
      have nxt := lv.next h2
      have sm := lv.small
      refine ⟨fun σ' H' => ∃ ra us rv y3 y4, Lv r0 (j + 1) ∧ σ' = [some (.ref a), some (.ref ra), some (.ref L), y3, y4] ∧ SqT K H' ra us ∧ NdsV K H' us (nx (j + 1) r0) ∧ H' L = some (.lst rv) ∧ RowsV K H' r0 rv (j + 1 + 1) ∧ Same H H', fun σ' H' hN => ?_, ?_⟩
      · obtain ⟨ra', us', rv', z3, z4, i1, i2⟩ := hN
        refine ⟨(nx (j + 1) r0).length, by omega, j + 1, ra', us', rv', z3, z4, rfl, fun i hi => ?_, i1, i2⟩
        rcases Nat.lt_or_ge i j with z | z
        · exact hj i z
        · have : i = j := by omega
          rw [this]
          exact h2
      · refine ⟨.ref ra, rfl, ra, nx j r0, rfl, row_of lv k1 k2 h2, fun H3 pb bs s3 hb kb => ?_⟩
        have okb := ok_pieces lv.1 lv.2.1 h2
        refine ⟨pb, bs, _, j + 1, rfl, hb, kb, okb, by omega, ?_, fun H4 pr rs s4 hr4 kr => ?_⟩
        · rw [List.length_map]
          have := pieces_fst_len h2
          omega
        have s34 := s3.trans s4
        have gL4 := s34 _ _ k3
        refine ⟨.ref L, rfl, .inl ⟨rfl, _, .inl (.inl gL4)⟩, .ref pr, rfl, L, _, _, rfl, rfl, gL4, line5 (by rw [k4.1]; omega), pr, rs, rv ++ [.ref pr], _, _, nxt.1, rfl, ?_, ?_, upd_same, ?_, sameW (k5.trans s34) (freeS (s1.trans (sameN nt)) nL)⟩
        all_goals have t9 : Tups K H4 (upd H4 L (.lst (rv ++ [.ref pr]))) := (But.set (p := L)).tups gL4
        · exact t9 _ _ (.inl (.inl hr4))
        · exact NdsV.up t9 kr
        · exact ((k4.up (.of s34)).up t9).app (t9 _ _ (.inl (.inl hr4))) (NdsV.up t9 kr)
    · have h1 : (nx j r0).length ≤ 1 := by
        have : ¬ (1 : Int) < ((us.length : Nat) : Int) := fun z => e (decide_eq_true z)
        omega
      exact ⟨.ref L, rfl, L, rv, rfl, .inl ⟨.inl (.inl k3), fun t2 n2 => q _ t2 rv (j + 1) (k5.trans (sameN n2)) (.inl (.inl upd_same)) (k4.up (.of (sameN n2))) (.inr ⟨rne, j, rfl, h1, hj⟩)⟩⟩
end
/-! ### the pairs at the bottom of a node -/
section
mutual
def prs : Nd → List (Nd × Nat)
  | .el n => [(.el n, 1)]
  | .run b c => match b with
    | .blk ps => (List.replicate c (prss ps)).flatten
    | .el n => [(.el n, c)]
    | .run _ _ => []
  | .blk ps => prss ps
def prss : List Nd → List (Nd × Nat)
  | [] => []
  | n :: r => prs n ++ prss r
end
theorem prss_app : ∀ (a b : List Nd), prss (a ++ b) = prss a ++ prss b
  | [], b => by simp [prss]
  | n :: r, b => by
    show prss (n :: (r ++ b)) = _
    rw [prss, prss, prss_app r b, List.append_assoc]
/-- blocks of pieces have the pairs of the row -/
theorem prss_pieces {ns : List Nd} : ∀ (zs : List (Nat × Nat)) (b n : Nat), M10.Cont b n zs → n ≤ ns.length → prss (zs.map fun z => Nd.blk (pce ns z)) = prss ((ns.take n).drop b)
  | [], b, n, h, _ => by
    have h : b = n := h
    subst h
    rw [List.drop_eq_nil_of_le (by rw [List.length_take]; omega)]
    rfl
  | z :: r, b, n, h, hl => by
    have ih := prss_pieces r z.2 n h.2.2.2 hl
    have hb := (M10.Cont.bnd h.2.2.2).1
    have h1 := h.1
    have h2 := h.2.1
    rw [List.map_cons, prss, ih]
    have e : (ns.take n).drop b = pce ns z ++ (ns.take n).drop z.2 := by
      unfold pce
      rw [h1]
      have e1 : ns.take z.2 = (ns.take n).take z.2 := by rw [List.take_take, Nat.min_eq_left hb]
      rw [e1]
      have e2 : (ns.take n).drop b = ((ns.take n).take z.2 ++ (ns.take n).drop z.2).drop b := by rw [List.take_append_drop]
      rw [e2, List.drop_append_of_le_length (by rw [List.length_take, List.length_take]; omega)]
    rw [e, prss_app]
    rfl
theorem prss_bks {ns : List Nd} (h : 2 ≤ ns.length) : prss (bks ns) = prss ns := by
  have := prss_pieces (ns := ns) (pieces ns) 0 ns.length (pieces_cont h) (Nat.le_refl _)
  rw [List.take_length, List.drop_zero] at this
  exact this
/-- runs of blocks have the pairs of the blocks -/
theorem prs_mkRun {p : Nd × Nat} (hb : p.1.isBlk = true) (h1 : 1 ≤ p.2) : prs (mkRun p) = (List.replicate p.2 (prs p.1)).flatten := by
  obtain ⟨n, c⟩ := p
  unfold mkRun
  split
  · rename_i e
    have e : c = 1 := e
    subst e
    simp
  · cases n with
    | blk ps => rw [prs, prs]
    | el n => cases hb
    | run b c => cases hb
theorem prss_grp : ∀ (k : Nat) (ns : List Nd), ns.length = k → (∀ n ∈ ns, n.isBlk = true) → prss ((grp ns).map mkRun) = prss ns
  | 0, ns, e, _ => by
    rw [List.eq_nil_of_length_eq_zero e]
    unfold grp
    rfl
  | k + 1, ns, e, hb => by
    rcases List.eq_nil_or_concat ns with rfl | ⟨r, n, rfl⟩
    · simp at e
    · rw [List.concat_eq_append] at *
      have ih := prss_grp k r (by simpa using e) fun x hx => hb x (by simp [hx])
      have bn := hb n (by simp)
      rw [grp_app, prss_app, ← ih]
      rcases List.eq_nil_or_concat (grp r) with z | ⟨i, ⟨m, c⟩, z⟩
      · rw [z, stepG_ne (fun m c hm => by cases hm)]
        show prss [mkRun (n, 1)] = _
        unfold mkRun
        simp [prss]
      · rw [List.concat_eq_append] at z
        rw [z]
        have hm := grp_foot r (m, c) (by rw [z]; simp)
        have bm := hb m (by have := hm.1; simp [this])
        by_cases em : m = n
        · subst em
          rw [stepG_eq, List.map_append, List.map_append, prss_app, prss_app, List.append_assoc]
          refine congrArg (fun x => prss (i.map mkRun) ++ x) ?_
          show prss [mkRun (m, c + 1)] = prss [mkRun (m, c)] ++ prss [m]
          simp only [prss, List.append_nil]
          rw [prs_mkRun (p := (m, c + 1)) bm (by simp), prs_mkRun (p := (m, c)) bm hm.2.1]
          show (List.replicate (c + 1) (prs m)).flatten = _
          rw [List.replicate_succ', List.flatten_append]
          simp
        · rw [stepG_ne (fun m' c' h => by
            rw [List.getLast?_append] at h
            have : m = m' ∧ c = c' := by simpa using h
            rw [← this.1]
            exact em), List.map_append, prss_app]
          refine congrArg (fun x => prss ((i ++ [(m, c)]).map mkRun) ++ x) ?_
          show prss [mkRun (n, 1)] = prss [n]
          unfold mkRun
          rfl
theorem prss_Nx {ns : List Nd} (h : 2 ≤ ns.length) : prss (Nx ns) = prss ns := by
  unfold Nx mkRuns
  rw [prss_grp _ _ rfl fun n hn => ?_, prss_bks h]
  obtain ⟨z, _, rfl⟩ := List.mem_map.mp hn
  rfl
theorem prss_row0 : ∀ {gs : List (Nd × Nat)}, (∀ p ∈ gs, ∃ k, p.1 = .el k) → prss (gs.map mkRun) = gs
  | [], _ => rfl
  | p :: r, h => by
    obtain ⟨k, e⟩ := h p List.mem_cons_self
    obtain ⟨n, c⟩ := p
    have e : n = .el k := e
    subst e
    rw [List.map_cons, prss, prss_row0 fun q hq => h q (List.mem_cons_of_mem _ hq)]
    unfold mkRun
    split
    · rename_i e1
      have e1 : c = 1 := e1
      subst e1
      rw [prs]
      rfl
    · rw [prs]
      rfl
/-- every row has the pairs of the sequence -/
theorem prss_nx {gs : List (Nd × Nat)} (h : ∀ p ∈ gs, ∃ k, p.1 = .el k) : ∀ j, (∀ i, i < j → 1 < (nx i (gs.map mkRun)).length) → prss (nx j (gs.map mkRun)) = gs
  | 0, _ => prss_row0 h
  | j + 1, k => by
    have := prss_nx h j fun i hi => k i (by omega)
    rw [nx, prss_Nx (k j (by omega)), this]
end
end C25

set_option Elab.async false
set_option linter.all false
set_option maxRecDepth 100000
namespace C25
open PySem PySem.Spec PyProof.Rows L2 Loc RZ
section
variable {P : Program} {w : World} {K : PySem.W.Frag} {mg : Str → Option Value} {base : Heap}
theorem scTree : FnScope ["runs", "rows"] ["runs"] (defScope sTree) := ⟨rfl, rfl, rfl, by decide +kernel, rfl, by decide +kernel, by decide +kernel⟩
theorem lv_all {r0 : List Nd} (h0 : Lv r0 0) : ∀ s, (∀ j, j < s → 1 < (nx j r0).length) → Lv r0 s
  | 0, _ => h0
  | s + 1, h => ((lv_all h0 s fun j hj => h j (by omega)).next (h s (by omega))).1
theorem one_node {r0 : List Nd} {s : Nat} (h : Lv r0 s) (h1 : (nx s r0).length ≤ 1) : ∃ n, nx s r0 = [n] := by
  match e : nx s r0, h1 with
  | [n], _ => exact ⟨n, rfl⟩
  | [], _ =>
    have := h.2.2.1
    rw [e] at this
    cases this
/-- the tree of the runs -/
def TreeV (K : PySem.W.Frag) (H : Hp) (v : V) (gs : List (Nd × Nat)) : Prop := (gs = [] ∧ v = .non) ∨ (gs ≠ [] ∧ ∃ n l, NdV K H v n ∧ Ok n l ∧ l ≤ 8 ∧ ht n < 18 ∧ prs n = gs)
theorem TreeV.up {H H' : Hp} {v : V} {gs : List (Nd × Nat)} (h : TreeV K H v gs) (e : Tups K H H') : TreeV K H' v gs := h.imp id fun ⟨z, n, l, h1, h2⟩ => ⟨z, n, l, h1.up e, h2⟩
/-- the node of the last row -/
def TreeX (K : PySem.W.Frag) (H : Hp) (v : V) (gs : List (Nd × Nat)) : Prop := (gs = [] ∧ v = .non) ∨ (gs ≠ [] ∧ ∃ n l, NdV K H v n ∧ Ok n l ∧ l ≤ 8 ∧ ht n < 18 ∧ prs n = gs ∧ nx l (gs.map mkRun) = [n] ∧ Top (gs.map mkRun) (l + 1))
theorem TreeX.up {H H' : Hp} {v : V} {gs : List (Nd × Nat)} (h : TreeX K H v gs) (e : Tups K H H') : TreeX K H' v gs := h.imp id fun ⟨z, n, l, h1, h2⟩ => ⟨z, n, l, h1.up e, h2⟩
theorem TreeX.weak {H : Hp} {v : V} {gs : List (Nd × Nat)} (h : TreeX K H v gs) : TreeV K H v gs := h.imp id fun ⟨z, n, l, h1, h2, h3, h4, h5, _⟩ => ⟨z, n, l, h1, h2, h3, h4, h5⟩
/-- equal contents have one tree -/
theorem TreeX.one {H H' : Hp} {v u : V} {gs : List (Nd × Nat)} (h : TreeX K H v gs) (k : TreeX K H' u gs) : (gs = [] ∧ v = .non ∧ u = .non) ∨ (gs ≠ [] ∧ ∃ n l, NdV K H v n ∧ NdV K H' u n ∧ Ok n l ∧ l ≤ 8 ∧ ht n < 18 ∧ prs n = gs) := by
  rcases h with ⟨z, e⟩ | ⟨z, n, l, h1, h2, h3, h4, h5, h6, h7⟩
  · rcases k with ⟨_, e2⟩ | ⟨z2, _⟩
    · exact .inl ⟨z, e, e2⟩
    · exact absurd z z2
  · rcases k with ⟨z2, _⟩ | ⟨_, n2, l2, k1, k2, k3, k4, k5, k6, k7⟩
    · exact absurd z2 z
    · have := h7.one k7
      have el : l2 = l := by omega
      subst el
      rw [h6] at k6
      have en : n = n2 := by simpa using k6
      subst en
      exact .inr ⟨z, n, _, h1, k1, h2, h3, h4, h5⟩
def spTreeX (K : PySem.W.Frag) : Sp := fun vs H Q _ => ∃ (a : Addr) (ws : List V) (gs : List (Nd × Nat)), vs = [.ref a] ∧ SqT K H a ws ∧ PrsV K H ws gs ∧ Giv gs ∧ gs.length ≤ 300 ∧ ∀ H' u, Same H H' → TreeX K H' u gs → Q u H'
def spTree (K : PySem.W.Frag) : Sp := fun vs H Q _ => ∃ (a : Addr) (ws : List V) (gs : List (Nd × Nat)), vs = [.ref a] ∧ SqT K H a ws ∧ PrsV K H ws gs ∧ Giv gs ∧ gs.length ≤ 300 ∧ ∀ H' u, Same H H' → TreeV K H' u gs → Q u H'
theorem ok_treeX {f g : Addr} {fd gd : FuncData} (F : Fun K "tree_of" "tree_of" sTree f fd) (G : FnOk P w K mg base CX0 24 g gd ["runs"] (spRows K)) (G' : Fun K "rows_of" "rows_of" sRows g gd) (gG : mg "rows_of" = some (.ref g)) (bG : Binds K gd ["runs"] []) (ml : mg "len" = none) : FnOk P w K mg base CX0 25 f fd ["runs"] (spTreeX K) := by
  refine F.ok scTree (fun vs H Q E h => ?_) (fun cdv A outer s H vs Q E hr h => ?_)
  · obtain ⟨a, ws, gs, rfl, _⟩ := h
    rfl
  · obtain ⟨a, ws, gs, rfl, hT, hP, giv, l300, q⟩ := h
    refine ⟨_, pss_cons (ps_set (i := 1) scTree.nd rfl (.inl rfl) (pe_call G hr (by rfl) gG G'.kp bG .nil pass0 (pa_cons (pv 0) pa_nil)))
      (pss_cons (ps_if (pt_cmpR op_eq (pe_callB call_len_seq (by rfl) ml PySem.boot_len (pa_cons (pv 1) pa_nil)) pe_int (nomark _)) (pss_one (ps_ret pe_non)) pss_nil)
      (pss_one (ps_ret (pe_ix ix_tup (pe_ix ix_tup (pv 1) (pe_un un_neg pe_int) (fun _ _ => rfl)) pe_int (fun _ _ => rfl))))), ?_⟩
    refine ⟨.ref a, rfl, a, ws, gs, rfl, hT, hP, giv, l300, fun H1 p us t s1 hp hR top => ?_⟩
    refine ⟨.ref p, rfl, p, us, rfl, .inr hp, rfl, _, rfl, ?_⟩
    have lus : us.length = t := hR.1
    rcases top with ⟨z, rfl⟩ | ⟨rne, s', rfl, h1, hj⟩
    · rw [decide_eq_true (show V.int ((us.length : Nat) : Int) = V.int 0 by rw [lus]; rfl)]
      exact iteT (q H1 _ s1 (.inl ⟨by simpa using z, rfl⟩))
    have gne : gs ≠ [] := fun z => rne (by rw [z]; rfl)
    have lv0 := giv_row0 giv gne l300
    have lv := lv_all lv0 s' hj
    obtain ⟨n, en⟩ := one_node lv h1
    have okn : Ok n s' := lv.1.mem n (by rw [en]; exact List.mem_cons_self)
    have pn : prs n = gs := by
      have := prss_nx (gs := gs) (fun p hp => by
        obtain ⟨⟨k, e, _⟩, _⟩ := giv.1 p hp
        exact ⟨k, e⟩) s' hj
      rw [en, prss, prss, List.append_nil] at this
      exact this
    obtain ⟨v, hv⟩ := get_of (l := us) (i := s') (by omega)
    obtain ⟨ra, xs, rfl, hra, hx⟩ := hR.2 s' v hv
    rw [en] at hx
    obtain ⟨u, q0, rfl, hu, _⟩ := hx.inv
    rw [decide_eq_false (show ¬ V.int ((us.length : Nat) : Int) = V.int 0 from fun z => by
      have := V.int.inj z
      omega)]
    refine iteF ⟨.ref p, rfl, 1, rfl, p, us, -1, .ref ra, rfl, rfl, hp, ?_, ra, _, 0, u, rfl, rfl, hra, atI_nat (j := 0) rfl, q H1 u s1 (.inr ⟨gne, n, s', hu, okn, lv.small.1, ?_, pn, en, .inr ⟨rne, s', rfl, h1, hj⟩⟩)⟩
    · rcases List.eq_nil_or_concat us with e1 | ⟨init, y, e1⟩
      · rw [e1] at lus
        cases lus
      · rw [e1, List.concat_eq_append] at hv lus ⊢
        rw [List.length_append] at lus
        have li : init.length = s' := by simpa using lus
        rw [List.getElem?_append_right (by omega), li, Nat.sub_self] at hv
        rw [Option.some.inj hv]
        exact atI_last _ _
    · have := ht_le n s' okn
      have := lv.small.1
      split at * <;> omega
theorem fn_to {k : Nat} {f : Addr} {fd : FuncData} {ps : List Str} {s1 s2 : Sp} (F : FnOk P w K mg base CX0 k f fd ps s1) (h : ∀ vs H Q E, s2 vs H Q E → s1 vs H Q E) : FnOk P w K mg base CX0 k f fd ps s2 :=
  ⟨fun vs H Q E g => F.len vs H Q E (h _ _ _ _ g), fun A outer s H args us vs Q E a b c d g => F.run A outer s H args us vs Q E a b c d (h _ _ _ _ g)⟩
theorem ok_tree {f g : Addr} {fd gd : FuncData} (F : Fun K "tree_of" "tree_of" sTree f fd) (G : FnOk P w K mg base CX0 24 g gd ["runs"] (spRows K)) (G' : Fun K "rows_of" "rows_of" sRows g gd) (gG : mg "rows_of" = some (.ref g)) (bG : Binds K gd ["runs"] []) (ml : mg "len" = none) : FnOk P w K mg base CX0 25 f fd ["runs"] (spTree K) :=
  fn_to (ok_treeX F G G' gG bG ml) fun vs H Q E ⟨a, ws, gs, e, h1, h2, h3, h4, h5⟩ => ⟨a, ws, gs, e, h1, h2, h3, h4, fun H' u s k => h5 H' u s k.weak⟩
end
section
variable {P : Program} {w : World} {K : PySem.W.Frag} {mg : Str → Option Value} {base : Heap}
/-- two promises of one def -/
theorem fn_or {k : Nat} {f : Addr} {fd : FuncData} {ps : List Str} {s1 s2 : Sp} (F : FnOk P w K mg base CX0 k f fd ps s1) (G : FnOk P w K mg base CX0 k f fd ps s2) : FnOk P w K mg base CX0 k f fd ps (fun vs H Q E => s1 vs H Q E ∨ s2 vs H Q E) :=
  ⟨fun vs H Q E h => h.elim (F.len vs H Q E) (G.len vs H Q E), fun A outer s H args us vs Q E a b c d h => h.elim (F.run A outer s H args us vs Q E a b c d) (G.run A outer s H args us vs Q E a b c d)⟩
end
set_option maxHeartbeats 0 in
structure Facts (K : PySem.W.Frag) (mg : Str → Option Value) where
  {uis_whole : Addr} {vis_whole : FuncData}
  fis_whole : Fun K "is_whole" "is_whole" sWhole uis_whole vis_whole
  gis_whole : mg "is_whole" = some (.ref uis_whole)
  bis_whole : Binds K vis_whole ["value"] []
  {uis_run : Addr} {vis_run : FuncData}
  fis_run : Fun K "is_run" "is_run" sIsRun uis_run vis_run
  gis_run : mg "is_run" = some (.ref uis_run)
  bis_run : Binds K vis_run ["value"] []
  {uis_block : Addr} {vis_block : FuncData}
  fis_block : Fun K "is_block" "is_block" sIsBlk uis_block vis_block
  gis_block : mg "is_block" = some (.ref uis_block)
  bis_block : Binds K vis_block ["value"] []
  {uhas_parts : Addr} {vhas_parts : FuncData}
  fhas_parts : Fun K "has_parts" "has_parts" sHasParts uhas_parts vhas_parts
  ghas_parts : mg "has_parts" = some (.ref uhas_parts)
  bhas_parts : Binds K vhas_parts ["node"] []
  {urun_of : Addr} {vrun_of : FuncData}
  frun_of : Fun K "run_of" "run_of" sRunOf urun_of vrun_of
  grun_of : mg "run_of" = some (.ref urun_of)
  brun_of : Binds K vrun_of ["node", "count"] []
  {usize_of : Addr} {vsize_of : FuncData}
  fsize_of : Fun K "size_of" "size_of" sSize usize_of vsize_of
  gsize_of : mg "size_of" = some (.ref usize_of)
  bsize_of : Binds K vsize_of ["node"] []
  {utext_of : Addr} {vtext_of : FuncData}
  ftext_of : Fun K "text_of" "text_of" sText utext_of vtext_of
  gtext_of : mg "text_of" = some (.ref utext_of)
  btext_of : Binds K vtext_of ["node"] []
  {urest_from : Addr} {vrest_from : FuncData}
  frest_from : Fun K "rest_from" "rest_from" sRestFrom urest_from vrest_from
  grest_from : mg "rest_from" = some (.ref urest_from)
  brest_from : Binds K vrest_from ["tree", "index"] []
  {utake_first : Addr} {vtake_first : FuncData}
  ftake_first : Fun K "take_first" "take_first" sTakeFirst utake_first vtake_first
  gtake_first : mg "take_first" = some (.ref utake_first)
  btake_first : Binds K vtake_first ["rest", "times"] []
  {uopen_first : Addr} {vopen_first : FuncData}
  fopen_first : Fun K "open_first" "open_first" sOpenFirst uopen_first vopen_first
  gopen_first : mg "open_first" = some (.ref uopen_first)
  bopen_first : Binds K vopen_first ["rest"] []
  {ufirst_marks : Addr} {vfirst_marks : FuncData}
  ffirst_marks : Fun K "first_marks" "first_marks" sFirst ufirst_marks vfirst_marks
  gfirst_marks : mg "first_marks" = some (.ref ufirst_marks)
  bfirst_marks : Binds K vfirst_marks ["row"] []
  {ufirst_mark : Addr} {vfirst_mark : FuncData}
  ffirst_mark : Fun K "_first_mark" "_first_mark" sFM ufirst_mark vfirst_mark
  gfirst_mark : mg "_first_mark" = some (.ref ufirst_mark)
  bfirst_mark : Binds K vfirst_mark ["texts", "place"] []
  {ufirst_unlike : Addr} {vfirst_unlike : FuncData}
  ffirst_unlike : Fun K "_first_unlike" "_first_unlike" sFU ufirst_unlike vfirst_unlike
  gfirst_unlike : mg "_first_unlike" = some (.ref ufirst_unlike)
  bfirst_unlike : Binds K vfirst_unlike ["one", "other"] []
  {ucode_at : Addr} {vcode_at : FuncData}
  fcode_at : Fun K "_code_at" "_code_at" sCodeAt ucode_at vcode_at
  gcode_at : mg "_code_at" = some (.ref ucode_at)
  bcode_at : Binds K vcode_at ["text", "at"] []
  {unext_marks : Addr} {vnext_marks : FuncData}
  fnext_marks : Fun K "next_marks" "next_marks" sNext unext_marks vnext_marks
  gnext_marks : mg "next_marks" = some (.ref unext_marks)
  bnext_marks : Binds K vnext_marks ["some"] []
  {unext_mark : Addr} {vnext_mark : FuncData}
  fnext_mark : Fun K "_next_mark" "_next_mark" sNm unext_mark vnext_mark
  gnext_mark : mg "_next_mark" = some (.ref unext_mark)
  bnext_mark : Binds K vnext_mark ["some", "place"] []
  {umarks : Addr} {vmarks : FuncData}
  fmarks : Fun K "marks" "marks" sMarks umarks vmarks
  gmarks : mg "marks" = some (.ref umarks)
  bmarks : Binds K vmarks ["row"] []
  {upeaks : Addr} {vpeaks : FuncData}
  fpeaks : Fun K "peaks" "peaks" sPeaks upeaks vpeaks
  gpeaks : mg "peaks" = some (.ref upeaks)
  bpeaks : Binds K vpeaks ["row"] []
  {ucuts : Addr} {vcuts : FuncData}
  fcuts : Fun K "cuts" "cuts" sCuts ucuts vcuts
  gcuts : mg "cuts" = some (.ref ucuts)
  bcuts : Binds K vcuts ["row"] []
  {ublocks : Addr} {vblocks : FuncData}
  fblocks : Fun K "blocks" "blocks" sBlocks ublocks vblocks
  gblocks : mg "blocks" = some (.ref ublocks)
  bblocks : Binds K vblocks ["row"] []
  {umade_runs : Addr} {vmade_runs : FuncData}
  fmade_runs : Fun K "made_runs" "made_runs" sMade umade_runs vmade_runs
  gmade_runs : mg "made_runs" = some (.ref umade_runs)
  bmade_runs : Binds K vmade_runs ["nodes"] []
  {urows_of : Addr} {vrows_of : FuncData}
  frows_of : Fun K "rows_of" "rows_of" sRows urows_of vrows_of
  grows_of : mg "rows_of" = some (.ref urows_of)
  brows_of : Binds K vrows_of ["runs"] []
  {utree_of : Addr} {vtree_of : FuncData}
  ftree_of : Fun K "tree_of" "tree_of" sTree utree_of vtree_of
  gtree_of : mg "tree_of" = some (.ref utree_of)
  btree_of : Binds K vtree_of ["runs"] []
  {ulength_of : Addr} {vlength_of : FuncData}
  flength_of : Fun K "length_of" "length_of" sLenOf ulength_of vlength_of
  glength_of : mg "length_of" = some (.ref ulength_of)
  blength_of : Binds K vlength_of ["tree"] []
  {uelement_at : Addr} {velement_at : FuncData}
  felement_at : Fun K "element_at" "element_at" sElemAt uelement_at velement_at
  gelement_at : mg "element_at" = some (.ref uelement_at)
  belement_at : Binds K velement_at ["tree", "index"] []
  {uelements_from : Addr} {velements_from : FuncData}
  felements_from : Fun K "elements_from" "elements_from" sElemsFrom uelements_from velements_from
  gelements_from : mg "elements_from" = some (.ref uelements_from)
  belements_from : Binds K velements_from ["tree", "start", "stop"] []
  {uway_to : Addr} {vway_to : FuncData}
  fway_to : Fun K "way_to" "way_to" sWayTo uway_to vway_to
  gway_to : mg "way_to" = some (.ref uway_to)
  bway_to : Binds K vway_to ["tree", "index"] []
  {upart_around : Addr} {vpart_around : FuncData}
  fpart_around : Fun K "_part_around" "_part_around" sPartAr upart_around vpart_around
  gpart_around : mg "_part_around" = some (.ref upart_around)
  bpart_around : Binds K vpart_around ["node", "begin", "index"] []
  {ul_pot : Addr} {vl_pot : FuncData}
  fl_pot : Fun K "_law_pot" "_law_pot" sPot ul_pot vl_pot
  gl_pot : mg "_law_pot" = some (.ref ul_pot)
  bl_pot : Binds K vl_pot ["script", "k"] []
  {ul_take : Addr} {vl_take : FuncData}
  fl_take : Fun K "_law_take" "_law_take" sTake ul_take vl_take
  gl_take : mg "_law_take" = some (.ref ul_take)
  bl_take : Binds K vl_take ["pot", "bound"] []
  {ul_of : Addr} {vl_of : FuncData}
  fl_of : Fun K "_law_of" "_law_of" sOf ul_of vl_of
  gl_of : mg "_law_of" = some (.ref ul_of)
  bl_of : Binds K vl_of ["pot", "some"] []
  {ul_sequence : Addr} {vl_sequence : FuncData}
  fl_sequence : Fun K "_law_sequence" "_law_sequence" sSeq ul_sequence vl_sequence
  gl_sequence : mg "_law_sequence" = some (.ref ul_sequence)
  bl_sequence : Binds K vl_sequence ["pot", "most"] []
  {ul_runs : Addr} {vl_runs : FuncData}
  fl_runs : Fun K "_law_runs" "_law_runs" sLRuns ul_runs vl_runs
  gl_runs : mg "_law_runs" = some (.ref ul_runs)
  bl_runs : Binds K vl_runs ["some"] []
  {ul_wide : Addr} {vl_wide : FuncData}
  fl_wide : Fun K "_law_wide" "_law_wide" sWide ul_wide vl_wide
  gl_wide : mg "_law_wide" = some (.ref ul_wide)
  bl_wide : Binds K vl_wide ["pot", "most"] []
  {ul_refusal : Addr} {vl_refusal : FuncData}
  fl_refusal : Fun K "_law_refusal" "_law_refusal" s__law_refusal ul_refusal vl_refusal
  gl_refusal : mg "_law_refusal" = some (.ref ul_refusal)
  bl_refusal : Binds K vl_refusal ["ask"] []
  {ul_element : Addr} {vl_element : FuncData}
  fl_element : Fun K "_law_element" "_law_element" s__law_element ul_element vl_element
  gl_element : mg "_law_element" = some (.ref ul_element)
  bl_element : Binds K vl_element ["given", "at"] []
  {ul_right : Addr} {vl_right : FuncData}
  fl_right : Fun K "_law_right" "_law_right" sRight ul_right vl_right
  gl_right : mg "_law_right" = some (.ref ul_right)
  bl_right : Binds K vl_right ["pot"] []
  {tSIGNS : Tok}
  SIGNS : mg "SIGNS" = some (.str "0123456789 ()^" tSIGNS)
  {tENDED : Tok}
  ENDED : mg "ENDED" = some (.int 14 tENDED)
  {tMOST_ELEMENTS : Tok}
  MOST_ELEMENTS : mg "MOST_ELEMENTS" = some (.int 2000 tMOST_ELEMENTS)
  ValueError : mg "ValueError" = none
  abs : mg "abs" = none
  all : mg "all" = none
  bool : mg "bool" = none
  int : mg "int" = none
  isinstance : mg "isinstance" = none
  len : mg "len" = none
  list : mg "list" = none
  max : mg "max" = none
  min : mg "min" = none
  range : mg "range" = none
  repr : mg "repr" = none
  reversed : mg "reversed" = none
  str : mg "str" = none
  sum : mg "sum" = none
  tuple : mg "tuple" = none
  zip : mg "zip" = none

/-! ### the trees of the program -/
section
variable {P : Program} {w : World} {K : PySem.W.Frag} {mg : Str → Option Value} {base : Heap}
theorem base_blocks (X : Facts K mg) : FnOk P w K mg base CX0 23 X.ublocks X.vblocks ["row"] (spBlocks K 16) := by
  have GF : FnOk P w K mg base CX0 19 X.ufirst_marks X.vfirst_marks ["row"] (spFirst K 16) := ok_first (m := 16) X.ffirst_marks
    { A := X.fis_run, C := X.fis_block, X := X.ftext_of, F1 := X.ffirst_mark, F2 := X.ffirst_unlike, F3 := X.fcode_at, gA := X.gis_run, gC := X.gis_block, gX := X.gtext_of, gF1 := X.gfirst_mark, gF2 := X.gfirst_unlike, gF3 := X.gcode_at, bA := X.bis_run, bC := X.bis_block, bX := X.btext_of, bF1 := X.bfirst_mark, bF2 := X.bfirst_unlike, bF3 := X.bcode_at,
      SIGNS := X.SIGNS, ENDED := X.ENDED, len := X.len, tuple := X.tuple, range := X.range, isinstance := X.isinstance, str := X.str }
  have G1 : FnOk P w K mg base CX0 2 X.unext_marks X.vnext_marks ["some"] (spNext K) := ok_next X.fnext_marks X.fnext_mark X.gnext_mark X.bnext_mark X.len X.range X.tuple
  have G3 := ok_marks (m := 16) X.fmarks GF X.ffirst_marks X.gfirst_marks X.bfirst_marks G1 X.fnext_marks X.gnext_marks X.bnext_marks X.range
  have G4 := ok_peaks (m := 16) X.fpeaks G3 X.fmarks X.gmarks X.bmarks X.range X.len X.tuple
  have G5 := ok_cuts (m := 16) X.fcuts G4 X.fpeaks X.gpeaks X.bpeaks X.range X.len X.tuple X.zip X.list
  exact ok_blocks (m := 16) X.fblocks G5 X.fcuts X.gcuts X.bcuts X.len X.tuple X.zip
theorem base_rows (X : Facts K mg) : FnOk P w K mg base CX0 24 X.urows_of X.vrows_of ["runs"] (spRows K) :=
  ok_rows X.frows_of (base_blocks X) X.fblocks X.gblocks X.bblocks (ok_made X.fmade_runs X.frun_of X.grun_of X.brun_of X.len X.tuple) X.fmade_runs X.gmade_runs X.bmade_runs X.frun_of X.grun_of X.brun_of X.len X.tuple
theorem base_tree (X : Facts K mg) : FnOk P w K mg base CX0 25 X.utree_of X.vtree_of ["runs"] (spTree K) :=
  ok_tree X.ftree_of (base_rows X) X.frows_of X.grows_of X.brows_of X.len
theorem base_treeX (X : Facts K mg) : FnOk P w K mg base CX0 25 X.utree_of X.vtree_of ["runs"] (spTreeX K) :=
  ok_treeX X.ftree_of (base_rows X) X.frows_of X.grows_of X.brows_of X.len
end
end C25

set_option Elab.async false
set_option linter.all false
set_option maxRecDepth 100000
namespace C25
open PySem PySem.Spec PyProof.Rows L2 Loc RZ
/-! ### the elements of a node -/
mutual
def els : Nd → List Nat
  | .el k => [k]
  | .run b c => (List.replicate c (els b)).flatten
  | .blk ps => elss ps
def elss : List Nd → List Nat
  | [] => []
  | n :: r => els n ++ elss r
end
def expd : List (Nd × Nat) → List Nat
  | [] => []
  | p :: r => (List.replicate p.2 (els p.1)).flatten ++ expd r
theorem elss_app : ∀ (a b : List Nd), elss (a ++ b) = elss a ++ elss b
  | [], b => by simp [elss]
  | n :: r, b => by
    show elss (n :: (r ++ b)) = _
    rw [elss, elss, elss_app r b, List.append_assoc]
theorem expd_app : ∀ (a b : List (Nd × Nat)), expd (a ++ b) = expd a ++ expd b
  | [], b => by simp [expd]
  | p :: r, b => by
    show expd (p :: (r ++ b)) = _
    rw [expd, expd, expd_app r b, List.append_assoc]
theorem expd_rep (a : List (Nd × Nat)) : ∀ c : Nat, expd (List.replicate c a).flatten = (List.replicate c (expd a)).flatten
  | 0 => rfl
  | c + 1 => by rw [List.replicate_succ, List.flatten_cons, expd_app, expd_rep a c, List.replicate_succ, List.flatten_cons]
mutual
theorem els_prs : ∀ (n : Nd) (l : Nat), Ok n l → els n = expd (prs n)
  | .el k, l, _ => by simp [els, prs, expd]
  | .run b c, l, h => by
    unfold Ok at h
    cases b with
    | el k => simp [els, prs, expd]
    | run _ _ => cases h.2.2.1
    | blk ps =>
      have ih := els_prs (.blk ps) l h.2.2.2
      rw [els, ih, prs, prs, expd_rep]
  | .blk ps, l, h => by
    unfold Ok at h
    rw [els, prs]
    exact elss_prss ps (l - 1) h.2.2.2.1
theorem elss_prss : ∀ (ps : List Nd) (l : Nat), OkAll ps l → elss ps = expd (prss ps)
  | [], _, _ => rfl
  | n :: r, l, h => by
    unfold OkAll at h
    rw [elss, prss, expd_app, els_prs n l h.1, elss_prss r l h.2]
end
theorem rep_len {α : Type} (l : List α) : ∀ c : Nat, (List.replicate c l).flatten.length = l.length * c
  | 0 => rfl
  | c + 1 => by rw [List.replicate_succ, List.flatten_cons, List.length_append, rep_len l c, Nat.mul_succ, Nat.add_comm]
mutual
theorem els_len : ∀ n : Nd, (els n).length = sz n
  | .el k => rfl
  | .run b c => by rw [els, sz, rep_len, els_len b]
  | .blk ps => by rw [els, sz, elss_len ps]
theorem elss_len : ∀ ps : List Nd, (elss ps).length = szs ps
  | [] => rfl
  | n :: r => by rw [elss, szs, List.length_append, els_len n, elss_len r]
end
theorem expd_step (acc : List (Nd × Nat)) (n : Nd) : expd (stepG acc n) = expd acc ++ els n := by
  rcases List.eq_nil_or_concat acc with rfl | ⟨r, ⟨m, c⟩, rfl⟩
  · rw [stepG_ne (fun m c hm => by cases hm)]
    simp [expd]
  · rw [List.concat_eq_append]
    by_cases e : m = n
    · subst e
      rw [stepG_eq, expd_app, expd_app, List.append_assoc]
      refine congrArg (fun z => expd r ++ z) ?_
      simp only [expd, List.append_nil]
      rw [List.replicate_succ', List.flatten_append]
      simp
    · rw [stepG_ne (fun m' c' hm => by
        rw [List.getLast?_append] at hm
        have : m = m' ∧ c = c' := by simpa using hm
        rw [← this.1]
        exact e), expd_app]
      simp [expd]
theorem expd_grp (ns : List Nd) : expd (grp ns) = elss ns := by
  suffices h : ∀ (k : Nat) (ns : List Nd), ns.length = k → expd (grp ns) = elss ns from h _ ns rfl
  intro k
  induction k with
  | zero =>
    intro ns e
    rw [List.eq_nil_of_length_eq_zero e]
    rfl
  | succ k ih =>
    intro ns e
    rcases List.eq_nil_or_concat ns with rfl | ⟨r, n, rfl⟩
    · simp at e
    · rw [List.concat_eq_append] at *
      rw [grp_app, expd_step, ih r (by simpa using e), elss_app]
      simp [elss]
/-- an element of a repeated list -/
theorem rep_get {α : Type} (l : List α) : ∀ (c i : Nat), i < l.length * c → (List.replicate c l).flatten[i]? = l[i % l.length]?
  | 0, i, h => by omega
  | c + 1, i, h => by
    rw [List.replicate_succ, List.flatten_cons]
    by_cases z : i < l.length
    · rw [List.getElem?_append_left z, Nat.mod_eq_of_lt z]
    · rw [List.getElem?_append_right (by omega), rep_get l c (i - l.length) (by rw [Nat.mul_succ] at h; omega)]
      rw [Nat.mod_eq_sub_mod (show l.length ≤ i by omega)]
/-! ### the way down to an element -/
def pick (idx : Nat) : List Nd → Nat → Nd × Nat
  | [], b => (.el 0, b)
  | n :: r, b => if idx < b + sz n then (n, b) else pick idx r (b + sz n)
def stp (idx : Nat) : Nd × Nat → Nd × Nat
  | (.el k, b) => (.el k, b)
  | (.run n c, b) => (n, idx - (idx - b) % sz n)
  | (.blk ps, b) => pick idx ps b
def isElN : Nd → Bool
  | .el _ => true
  | _ => false
def wy (idx : Nat) : Nat → Nd × Nat → List (Nd × Nat)
  | 0, p => [p]
  | m + 1, p => if isElN p.1 then [p] else p :: wy idx m (stp idx p)
/-- the index lies in the node that begins there -/
def At (idx : Nat) (p : Nd × Nat) : Prop := p.2 ≤ idx ∧ idx < p.2 + sz p.1
theorem pick_at {idx : Nat} : ∀ {ps : List Nd} {b : Nat}, b ≤ idx → idx < b + szs ps → At idx (pick idx ps b) ∧ (pick idx ps b).1 ∈ ps ∧ (els (pick idx ps b).1)[idx - (pick idx ps b).2]? = (elss ps)[idx - b]?
  | [], b, h1, h2 => by rw [szs] at h2; omega
  | n :: r, b, h1, h2 => by
    unfold pick
    rw [szs] at h2
    split
    · rename_i h
      refine ⟨⟨h1, h⟩, List.mem_cons_self, ?_⟩
      rw [elss, List.getElem?_append_left (by rw [els_len]; omega)]
    · rename_i h
      obtain ⟨k1, k2, k3⟩ := pick_at (idx := idx) (ps := r) (b := b + sz n) (by omega) (by omega)
      refine ⟨k1, List.mem_cons_of_mem _ k2, ?_⟩
      rw [k3, elss, List.getElem?_append_right (by rw [els_len]; omega), els_len]
      congr 1
      omega
theorem stp_at {idx : Nat} {p : Nd × Nat} {l : Nat} (ok : Ok p.1 l) (h : At idx p) : At idx (stp idx p) ∧ (els (stp idx p).1)[idx - (stp idx p).2]? = (els p.1)[idx - p.2]? := by
  obtain ⟨n, b⟩ := p
  obtain ⟨h1, h2⟩ := h
  cases n with
  | el k => exact ⟨⟨h1, h2⟩, rfl⟩
  | run n c =>
    simp only [sz] at h1 h2
    have s1 : 0 < sz n := Nat.pos_of_ne_zero fun z => by rw [z] at h2; omega
    have m1 := Nat.mod_lt (idx - b) s1
    have m2 := Nat.mod_le (idx - b) (sz n)
    refine ⟨⟨?_, ?_⟩, ?_⟩
    · show idx - (idx - b) % sz n ≤ idx
      omega
    · show idx < idx - (idx - b) % sz n + sz n
      omega
    · show (els n)[idx - (idx - (idx - b) % sz n)]? = (els (.run n c))[idx - b]?
      rw [els, rep_get _ _ _ (by rw [els_len]; omega), els_len]
      congr 1
      omega
  | blk ps =>
    simp only [sz] at h1 h2
    have := pick_at h1 h2
    refine ⟨this.1, ?_⟩
    have e : els (.blk ps) = elss ps := by rw [els]
    rw [e]
    exact this.2.2
theorem stp_ok {idx : Nat} {p : Nd × Nat} {l : Nat} (ok : Ok p.1 l) (h : At idx p) : ∃ l', l' ≤ l ∧ Ok (stp idx p).1 l' ∧ (isElN p.1 = false → ht (stp idx p).1 < ht p.1) := by
  obtain ⟨n, b⟩ := p
  cases n with
  | el k => exact ⟨l, Nat.le_refl _, ok, fun z => nomatch z⟩
  | run n c =>
    have ok' := ok
    unfold Ok at ok'
    exact ⟨l, Nat.le_refl _, ok'.2.2.2, fun _ => by
      show ht n < ht (.run n c)
      rw [ht.eq_2]
      omega⟩
  | blk ps =>
    have ok' := ok
    unfold Ok at ok'
    obtain ⟨h1, h2⟩ := h
    simp only [sz] at h1 h2
    have := pick_at h1 h2
    exact ⟨l - 1, by omega, ok'.2.2.2.1.mem _ this.2.1, fun _ => by
      have h3 := hts_mem this.2.1
      show ht (pick idx ps b).1 < ht (.blk ps)
      rw [ht]
      omega⟩
/-- the way ends with the element -/
theorem wy_last {idx : Nat} : ∀ (m : Nat) (p : Nd × Nat) (l : Nat), Ok p.1 l → At idx p → ht p.1 < m + 1 → ∃ i k, wy idx m p = i ++ [(.el k, idx)] ∧ (els p.1)[idx - p.2]? = some k
  | 0, (.el k, b), l, _, h, _ => by
    have e : b = idx := by
      have := h.1
      have := h.2
      simp only [sz] at *
      omega
    exact ⟨[], k, by rw [e]; rfl, by rw [e, Nat.sub_self]; rfl⟩
  | 0, (.run n c, b), l, _, h, z => by simp only [ht] at z; omega
  | 0, (.blk ps, b), l, _, h, z => by simp only [ht] at z; omega
  | m + 1, p, l, ok, h, z => by
    unfold wy
    split
    · rename_i e
      obtain ⟨n, b⟩ := p
      cases n with
      | el k =>
        have e : b = idx := by
          have := h.1
          have := h.2
          simp only [sz] at *
          omega
        exact ⟨[], k, by rw [e]; rfl, by rw [e, Nat.sub_self]; rfl⟩
      | run _ _ => cases e
      | blk _ => cases e
    · rename_i e
      obtain ⟨l', _, ok', hh⟩ := stp_ok ok h
      have hh := hh (by simpa using e)
      obtain ⟨h', e'⟩ := stp_at ok h
      obtain ⟨i, k, e1, e2⟩ := wy_last m (stp idx p) l' ok' h' (by omega)
      exact ⟨p :: i, k, by rw [e1]; rfl, by rw [← e', e2]⟩
/-! ### sizes -/
section
variable {P : Program} {w : World} {K : PySem.W.Frag} {mg : Str → Option Value} {base : Heap}
/-- size_of, of nodes of less than m storeys -/
def spSize (K : PySem.W.Frag) (m : Nat) : Sp := fun vs H Q _ => ∃ v n l, vs = [v] ∧ NdV K H v n ∧ Ok n l ∧ l ≤ 20 ∧ ht n < m ∧ ∀ H', Same H H' → Q (.int (sz n : Nat)) H'
theorem scSize : FnScope ["node", "part"] ["node"] (defScope sSize) := ⟨rfl, rfl, rfl, by decide +kernel, rfl, by decide +kernel, by decide +kernel⟩
theorem mul_sz {b : Nd} {l c : Nat} (h : Ok b l) (hl : l ≤ 20) (hc : c ≤ 10 ^ 60) : CMulW (sz b : Nat) (c : Nat) ∧ CMulW (c : Nat) (sz b : Nat) := by
  have h1 := sz_small h
  have h2 : c < 2 ^ 200 := Nat.lt_of_le_of_lt hc (by decide +kernel)
  exact ⟨wide_mul (a := 404 * l + 202) (b := 200) h1 h2 (by omega) (by decide) (by omega), wide_mul (a := 200) (b := 404 * l + 202) h2 h1 (by decide) (by omega) (by omega)⟩
theorem ok_size {f g b : Addr} {fd gd bd : FuncData} (F : Fun K "size_of" "size_of" sSize f fd) (gF : mg "size_of" = some (.ref f)) (bF : Binds K fd ["node"] []) (R : Fun K "is_run" "is_run" sIsRun g gd) (gR : mg "is_run" = some (.ref g)) (bR : Binds K gd ["value"] [])
    (B : Fun K "is_block" "is_block" sIsBlk b bd) (gB : mg "is_block" = some (.ref b)) (bB : Binds K bd ["value"] []) (mi : mg "isinstance" = none) (mt : mg "tuple" = none) (ms : mg "sum" = none) : ∀ m : Nat, FnOk P w K mg base CX0 (m + 1) f fd ["node"] (spSize K m)
  | 0 => ⟨fun vs H Q E h => by obtain ⟨v, n, l, _, _, _, _, h, _⟩ := h; exact absurd h (Nat.not_lt_zero _), fun A outer s H args us vs Q E _ _ _ _ h => by obtain ⟨v, n, l, _, _, _, _, h, _⟩ := h; exact absurd h (Nat.not_lt_zero _)⟩
  | m + 1 => by
    have IH : FnOk P w K mg base CX0 (m + 1) f fd ["node"] (spSize K m) := ok_size F gF bF R gR bR B gB bB mi mt ms m
    have GR : FnOk P w K mg base CX0 (m + 1) g gd ["value"] (spIsRun K) := ok_isrun R mi mt
    have GB : FnOk P w K mg base CX0 (m + 1) b bd ["value"] (spIsBlk K) := ok_isblk B mi mt
    refine F.ok scSize (fun vs H Q E h => ?_) (fun cdv A outer s H vs Q E hr h => ?_)
    · obtain ⟨v, n, l, rfl, _⟩ := h
      rfl
    · obtain ⟨v, n, l, rfl, hn, ok, hl, hh, q⟩ := h
      refine ⟨_, pss_cons (ps_if (pt_val (pe_call GR hr (by rfl) gR R.kp bR .nil pass0 (pa_cons (pv 0) pa_nil)))
            (pss_one (ps_ret (pe_op op_mulW (pe_call IH hr (by rfl) gF F.kp bF .nil pass0 (pa_cons (pe_ix ix_tup (pv 0) pe_int (fun _ _ => rfl)) pa_nil)) (pe_ix ix_tup (pv 0) pe_int (fun _ _ => rfl))))) pss_nil)
        (pss_cons (ps_if (pt_val (pe_call GB hr (by rfl) gB B.kp bB .nil pass0 (pa_cons (pv 0) pa_nil)))
            (pss_one (ps_ret (pe_callB (cr_sum rfl) (by rfl) ms PyProof.Rows.boot_sum (pa_cons (pe_lc (own := [("part", 1)]) (g := gName 1) (tt := tYes) rfl scSize.nd (pi_tup (pe_ix ix_tup (pv 0) pe_int (fun _ _ => rfl)))
              (blkOk_by (N := ["node", "part"]) (sc := defScope sSize) (by decide +kernel)) (fun _ _ _ _ _ => pg_name (i := 1) scSize.nd rfl (Or.inl rfl)) (fun _ _ _ _ _ => pts_nil)
              (fun _ _ _ _ _ => pe_call IH hr (by rfl) gF F.kp bF .nil pass0 (pa_cons (pv 1) pa_nil))) pa_nil)))) pss_nil)
        (pss_one (ps_ret pe_int))), ?_⟩
      refine ⟨v, rfl, v, n, rfl, hn, fun H1 s1 => ?_⟩
      have hn1 := hn.up (.of s1)
      cases n with
      | run b c =>
        refine ⟨_, rfl, iteT ?_⟩
        obtain ⟨a, v2, rfl, h1, h2⟩ := hn1.run
        unfold Ok at ok
        refine ⟨.ref a, rfl, a, _, 1, v2, rfl, rfl, h1, rfl, v2, b, l, rfl, h2, ok.2.2.2, hl, ?_, fun H2 s2 => ?_⟩
        · unfold ht at hh
          omega
        refine ⟨.ref a, rfl, a, _, 2, .int c, rfl, rfl, sameT s2 h1, rfl, _, _, rfl, rfl, (mul_sz ok.2.2.2 hl ok.2.1).1, ?_⟩
        have := q H2 (s1.trans s2)
        unfold sz at this
        rw [Int.natCast_mul] at this
        exact this
      | el n =>
        refine ⟨_, rfl, iteF ?_⟩
        refine ⟨v, rfl, v, .el n, rfl, hn1, fun H2 s2 => ⟨_, rfl, iteF ?_⟩⟩
        have := q H2 (s1.trans s2)
        unfold sz at this
        exact this
      | blk ps =>
        refine ⟨_, rfl, iteF ?_⟩
        refine ⟨v, rfl, v, .blk ps, rfl, hn1, fun H2 s2 => ⟨_, rfl, iteT ?_⟩⟩
        obtain ⟨a, bb, vs, rfl, h1, h2, h3⟩ := (hn1.up (.of s2)).blk
        unfold Ok at ok
        obtain ⟨l1, l2, l3, okp, _⟩ := ok
        have lv := h3.len
        refine ⟨.ref a, rfl, a, _, 1, .ref bb, rfl, rfl, h1, rfl, bb, rfl, ⟨vs, h2⟩, fun D nD => ?_⟩
        refine lc_tup (xs := vs) (fun i H' => H' D = some (.lst (((ps.map fun n => ((sz n : Nat) : Int)).take i).map V.int)) ∧ Same H2 H') ⟨by rw [List.take_zero]; exact upd_same, sameN nD⟩ (fun i H' _ hp => sameT hp.2 h2) (fun i u H' hu hp => ?_) (fun H' hp => ?_)
        · obtain ⟨g1, s3⟩ := hp
          obtain ⟨x, hx, kx⟩ := (h3.up (.of s3)).get hu
          have hmem := List.mem_of_getElem? hx
          have ht2 : ht x < m := by
            have := hts_mem hmem
            unfold ht at hh
            omega
          have htx : (ps.map fun n => ((sz n : Nat) : Int))[i]? = some ((sz x : Nat) : Int) := by rw [List.getElem?_map, hx]; rfl
          refine ⟨rfl, u, rfl, u, x, l - 1, rfl, kx, okp.mem x hmem, by omega, ht2, fun H3 s4 => ⟨_, s4 _ _ g1, ?_, ?_, sameW (s3.trans s4) nD⟩⟩
          · rw [List.length_map]
            refine line5 (small_take ?_)
            rw [List.length_map]
            omega
          · rw [upd_same, take_more htx, List.map_append]
            rfl
        · obtain ⟨g1, s3⟩ := hp
          have full : (ps.map fun n => ((sz n : Nat) : Int)).take vs.length = ps.map fun n => ((sz n : Nat) : Int) := List.take_of_length_le (by rw [List.length_map, lv]; exact Nat.le_refl _)
          rw [full] at g1
          refine ⟨D, _, rfl, .inl (.inl g1), ?_⟩
          rw [szs_sum]
          have := q H' (s1.trans (s2.trans s3))
          unfold sz at this
          exact this
end
/-! ### rests: stacks of nodes -/
/-- a stack: levels do not fall, of each level at most three -/
inductive Stk : Nat → Nat → List (Nd × Nat) → Prop
  | nil (l k : Nat) : Stk l k []
  | same {l k : Nat} {n : Nd} {t : Nat} {r : List (Nd × Nat)} : Ok n l → (n.isRun = true → t = 1) → 1 ≤ t → t ≤ 10 ^ 60 → ht n < 18 → Stk l k r → Stk l (k + 1) ((n, t) :: r)
  | up {l k : Nat} {r : List (Nd × Nat)} : l < 8 → Stk (l + 1) 3 r → Stk l k r
theorem Stk.len {l k : Nat} {st : List (Nd × Nat)} (h : Stk l k st) (h8 : l ≤ 8) : st.length ≤ k + 3 * (8 - l) := by
  induction h with
  | nil l k => simp
  | same _ _ _ _ _ _ ih =>
    have := ih h8
    rw [List.length_cons]
    omega
  | up h1 _ ih =>
    have := ih (by omega)
    omega
theorem Stk.mono {l k : Nat} {st : List (Nd × Nat)} (h : Stk l k st) : ∀ {k' : Nat}, k ≤ k' → Stk l k' st := by
  induction h with
  | nil l k => exact fun _ => .nil _ _
  | @same l k n t r h1 h2 h3 h4 h5 _ ih =>
    intro k' hk
    obtain ⟨j, rfl⟩ : ∃ j, k' = j + 1 := ⟨k' - 1, by omega⟩
    exact .same h1 h2 h3 h4 h5 (ih (by omega))
  | up h1 h2 _ => exact fun _ => .up h1 h2
theorem Stk.mem {l k : Nat} {st : List (Nd × Nat)} (h : Stk l k st) (h8 : l ≤ 8) : ∀ p ∈ st, ∃ l', l' ≤ 8 ∧ Ok p.1 l' ∧ 1 ≤ p.2 ∧ p.2 ≤ 10 ^ 60 ∧ ht p.1 < 18 := by
  induction h with
  | nil l k => exact fun p hp => nomatch hp
  | same h1 h2 h3 h4 h5 _ ih =>
    intro p hp
    rcases List.mem_cons.mp hp with rfl | hp
    · exact ⟨_, h8, h1, h3, h4, h5⟩
    · exact ih h8 p hp
  | up h1 _ ih => exact fun p hp => ih (by omega) p hp
theorem Stk.top {l k : Nat} {st : List (Nd × Nat)} (h : Stk l k st) : ∀ {n : Nd} {t : Nat} {r : List (Nd × Nat)}, st = (n, t) :: r → l ≤ 8 → k ≤ 3 → ∃ l' k', l' ≤ 8 ∧ l ≤ l' ∧ k' ≤ 2 ∧ Ok n l' ∧ (n.isRun = true → t = 1) ∧ 1 ≤ t ∧ t ≤ 10 ^ 60 ∧ ht n < 18 ∧ Stk l' k' r := by
  induction h with
  | nil l k => exact fun e => nomatch e
  | same h1 h2 h3 h4 h5 h6 _ =>
    intro n t r e h8 hk
    cases e
    exact ⟨_, _, h8, Nat.le_refl _, by omega, h1, h2, h3, h4, h5, h6⟩
  | up h1 _ ih =>
    intro n t r e h8 hk
    obtain ⟨l', k', i1, i2, i3⟩ := ih e (by omega) (by omega)
    exact ⟨l', k', i1, by omega, i3⟩
def Rst (st : List (Nd × Nat)) : Prop := ∃ l, l ≤ 8 ∧ Stk l 3 st
theorem Rst.len {st : List (Nd × Nat)} (h : Rst st) : st.length ≤ 27 := by
  obtain ⟨l, h8, h⟩ := h
  have := h.len h8
  omega
theorem Rst.mem {st : List (Nd × Nat)} (h : Rst st) : ∀ p ∈ st, ∃ l', l' ≤ 8 ∧ Ok p.1 l' ∧ 1 ≤ p.2 ∧ p.2 ≤ 10 ^ 60 ∧ ht p.1 < 18 := by
  obtain ⟨l, h8, h⟩ := h
  exact h.mem h8
theorem Rst.nil : Rst [] := ⟨0, by decide, .nil _ _⟩
theorem Rst.one {n : Nd} {l : Nat} (h : Ok n l) (h8 : l ≤ 8) (h18 : ht n < 18) : Rst [(n, 1)] := ⟨l, h8, .same h (fun _ => rfl) (Nat.le_refl _) (by decide) h18 (.nil _ _)⟩
/-- the first node taken off, so many times -/
def takeF (k : Nat) : List (Nd × Nat) → List (Nd × Nat)
  | [] => []
  | (n, t) :: r => if k < t then (n, t - k) :: r else r
/-- the first node opened -/
def openF : List (Nd × Nat) → List (Nd × Nat)
  | [] => []
  | (.el k, t) :: r => (.el k, t) :: r
  | (.run b c, t) :: r => (b, c) :: takeF 1 ((.run b c, t) :: r)
  | (.blk ps, t) :: r => ps.map (fun n => (n, 1)) ++ takeF 1 ((.blk ps, t) :: r)
theorem takeF_def {k t : Nat} {n : Nd} {r : List (Nd × Nat)} : takeF k ((n, t) :: r) = if k < t then (n, t - k) :: r else r := rfl
theorem openF_run {t c : Nat} {b : Nd} {r : List (Nd × Nat)} : openF ((.run b c, t) :: r) = (b, c) :: takeF 1 ((.run b c, t) :: r) := rfl
theorem openF_blk {t : Nat} {ps : List Nd} {r : List (Nd × Nat)} : openF ((.blk ps, t) :: r) = ps.map (fun n => (n, 1)) ++ takeF 1 ((.blk ps, t) :: r) := rfl
theorem Rst.take {n : Nd} {t k : Nat} {r : List (Nd × Nat)} (h : Rst ((n, t) :: r)) (hk : 1 ≤ k) : Rst (takeF k ((n, t) :: r)) := by
  obtain ⟨l, h8, h⟩ := h
  obtain ⟨l', k', i1, i2, i3, i4, i5, i6, i7, i8, i9⟩ := h.top rfl h8 (by decide)
  refine ⟨l', i1, ?_⟩
  rw [takeF_def]
  split
  · exact (Stk.same i4 (fun e => by have := i5 e; omega) (by omega) (by omega) i8 i9).mono (show k' + 1 ≤ 3 by omega)
  · exact i9.mono (show k' ≤ 3 by omega)
theorem stk_parts {l k : Nat} {r : List (Nd × Nat)} : ∀ (ps : List Nd), OkAll ps l → (∀ n ∈ ps, ht n < 18) → Stk l k r → Stk l (k + ps.length) (ps.map (fun n => (n, 1)) ++ r)
  | [], _, _, h => h
  | a :: q, ok, hh, h => by
    unfold OkAll at ok
    have ih := stk_parts q ok.2 (fun n hn => hh n (List.mem_cons_of_mem _ hn)) h
    exact .same ok.1 (fun _ => rfl) (Nat.le_refl _) (by decide) (hh a List.mem_cons_self) ih
theorem Rst.open {n : Nd} {t : Nat} {r : List (Nd × Nat)} (h : Rst ((n, t) :: r)) (ne : isElN n = false) : Rst (openF ((n, t) :: r)) := by
  obtain ⟨l, h8, h⟩ := h
  obtain ⟨l', k', i1, i2, i3, i4, i5, i6, i7, i8, i9⟩ := h.top rfl h8 (by decide)
  cases n with
  | el k => cases ne
  | run b c =>
    have t1 := i5 rfl
    subst t1
    unfold Ok at i4
    obtain ⟨o1, o2, o3, o4⟩ := i4
    refine ⟨l', i1, ?_⟩
    rw [openF_run, takeF_def, if_neg (by omega)]
    simp only [ht] at i8
    exact (Stk.same o4 (fun e => by rw [o3] at e; cases e) (by omega) o2 (by omega) i9).mono (show k' + 1 ≤ 3 by omega)
  | blk ps =>
    unfold Ok at i4
    obtain ⟨o1, o2, o3, o4, o5⟩ := i4
    simp only [ht] at i8
    have l1 : 1 ≤ l' := by omega
    refine ⟨l' - 1, by omega, ?_⟩
    have hr : Stk (l' - 1) 0 (takeF 1 ((.blk ps, t) :: r)) := by
      refine .up (by omega) ?_
      rw [show l' - 1 + 1 = l' by omega]
      rw [takeF_def]
      split
      · exact (Stk.same (k := k') (n := .blk ps) (by unfold Ok; exact ⟨o1, o2, o3, o4, o5⟩) (fun e => by cases e) (by omega) (by omega) (by simp only [ht]; omega) i9).mono (show k' + 1 ≤ 3 by omega)
      · exact i9.mono (show k' ≤ 3 by omega)
    have := stk_parts ps o4 (fun n hn => by have := hts_mem hn; omega) hr
    rw [openF_blk]
    exact this.mono (show 0 + ps.length ≤ 3 by omega)
/-! ### what stacks stand for -/
theorem takeF_expd {n : Nd} {t k : Nat} {r : List (Nd × Nat)} (hk : k ≤ t) : expd ((n, t) :: r) = (List.replicate k (els n)).flatten ++ expd (takeF k ((n, t) :: r)) := by
  rw [expd, takeF_def]
  split
  · rw [expd, ← List.append_assoc, ← List.flatten_append, List.replicate_append_replicate, show k + (t - k) = t by omega]
  · rw [show t = k by omega]
theorem expd_ones : ∀ ps : List Nd, expd (ps.map fun n => (n, 1)) = elss ps
  | [] => rfl
  | a :: q => by
    rw [List.map_cons, expd, expd_ones q, elss]
    simp
theorem openF_expd {n : Nd} {t : Nat} {r : List (Nd × Nat)} (ht1 : 1 ≤ t) : expd (openF ((n, t) :: r)) = expd ((n, t) :: r) := by
  cases n with
  | el k => rfl
  | run b c =>
    rw [takeF_expd (k := 1) ht1]
    rw [openF_run, expd]
    simp [els]
  | blk ps =>
    rw [takeF_expd (k := 1) ht1]
    rw [openF_blk, expd_app, expd_ones]
    simp [els]
mutual
theorem sz_pos' : ∀ (n : Nd) (l : Nat), Ok n l → 1 ≤ sz n
  | .el k, l, _ => Nat.le_refl _
  | .run b c, l, h => by
    unfold Ok at h
    have := sz_pos' b l h.2.2.2
    rw [sz]
    exact Nat.le_trans this (Nat.le_mul_of_pos_right _ (by omega))
  | .blk ps, l, h => by
    unfold Ok at h
    rw [sz]
    exact szs_pos' ps (l - 1) h.2.2.2.1 (by omega)
theorem szs_pos' : ∀ (ps : List Nd) (l : Nat), OkAll ps l → 1 ≤ ps.length → 1 ≤ szs ps
  | [], _, _, h => by simp at h
  | a :: r, l, h, _ => by
    unfold OkAll at h
    have := sz_pos' a l h.1
    rw [szs]
    omega
end
theorem sz_pos {n : Nd} {l : Nat} (h : Ok n l) : 1 ≤ sz n := sz_pos' n l h
/-- the height of the top -/
def topH : List (Nd × Nat) → Nat
  | [] => 0
  | (n, _) :: _ => ht n
theorem openF_topH {n : Nd} {t : Nat} {r : List (Nd × Nat)} (h : Rst ((n, t) :: r)) (ne : isElN n = false) : topH (openF ((n, t) :: r)) < ht n := by
  obtain ⟨l, h8, h⟩ := h
  obtain ⟨l', k', i1, i2, i3, i4, _⟩ := h.top rfl h8 (by decide)
  cases n with
  | el k => cases ne
  | run b c =>
    rw [openF_run]
    show ht b < _
    simp only [ht]
    omega
  | blk ps =>
    unfold Ok at i4
    cases ps with
    | nil =>
      have := i4.2.1
      simp at this
    | cons a q =>
      rw [openF_blk, List.map_cons, List.cons_append]
      show ht a < _
      have := hts_mem (ps := a :: q) (n := a) List.mem_cons_self
      simp only [ht] at this ⊢
      omega
theorem topH_lt {st : List (Nd × Nat)} (h : Rst st) : topH st < 18 := by
  match st with
  | [] => exact (by decide : (0 : Nat) < 18)
  | (n, t) :: r =>
    obtain ⟨_, _, _, _, _, hh⟩ := h.mem (n, t) List.mem_cons_self
    exact hh
section
variable {P : Program} {w : World} {K : PySem.W.Frag} {mg : Str → Option Value} {base : Heap}
/-- the list at R is a rest -/
def RstV (K : PySem.W.Frag) (H : Hp) (R : Addr) (st : List (Nd × Nat)) : Prop := ∃ ws, H R = some (.lst ws) ∧ PrsV K H ws st.reverse
theorem PrsV.last {H : Hp} {ws : List V} {n : Nd} {t : Nat} {r : List (Nd × Nat)} (h : PrsV K H ws ((n, t) :: r).reverse) : ∃ us a u, ws = us ++ [.ref a] ∧ PrsV K H us r.reverse ∧ SqT K H a [u, .int (t : Nat)] ∧ NdV K H u n := by
  rw [List.reverse_cons] at h
  exact h.split
theorem RstV.frame {H H' : Hp} {R p : Addr} {st : List (Nd × Nat)} {c : Nat} (h : RstV K H R st) (b : But p H H') (n : R ≠ p) (hp : Pot H p c) : RstV K H' R st := by
  obtain ⟨ws, e, k⟩ := h
  exact ⟨ws, b.at n e, PrsV.up (b.tupsP hp) k⟩
theorem RstV.other {H H' : Hp} {R Q : Addr} {st : List (Nd × Nat)} {ys : List V} (h : RstV K H R st) (b : But Q H H') (n : R ≠ Q) (hq : H Q = some (.lst ys)) : RstV K H' R st := by
  obtain ⟨ws, e, k⟩ := h
  exact ⟨ws, b.at n e, PrsV.up (b.tups hq) k⟩
theorem RstV.up {H H' : Hp} {R : Addr} {st : List (Nd × Nat)} (h : RstV K H R st) (b : Same H H') : RstV K H' R st := by
  obtain ⟨ws, e, k⟩ := h
  exact ⟨ws, b _ _ e, PrsV.up (.of b) k⟩
theorem scTakeF : FnScope ["rest", "times", "node", "left"] ["rest", "times"] (defScope sTakeFirst) := ⟨rfl, rfl, rfl, by decide +kernel, rfl, by decide +kernel, by decide +kernel⟩
def spTakeF (K : PySem.W.Frag) : Sp := fun vs H Q _ => ∃ (R : Addr) (k : Nat) (n : Nd) (t : Nat) (r : List (Nd × Nat)), vs = [.ref R, .int k] ∧ RstV K H R ((n, t) :: r) ∧ r.length ≤ 1000 ∧ ∀ H', But R H H' → RstV K H' R (takeF k ((n, t) :: r)) → Q .non H'
theorem ok_takeF {f : Addr} {fd : FuncData} {k : Nat} (F : Fun K "take_first" "take_first" sTakeFirst f fd) : FnOk P w K mg base CX0 (k + 1) f fd ["rest", "times"] (spTakeF K) := by
  refine F.ok scTakeF (fun vs H Q E h => ?_) (fun cdv A outer s H vs Q E hr h => ?_)
  · obtain ⟨R, k, n, t, r, rfl, _⟩ := h
    rfl
  · obtain ⟨R, k, n, t, r, rfl, ⟨ws, hR, kP⟩, hl, q⟩ := h
    refine ⟨_, pss_cons (ps_asg (pe_bm0 PySem.F.plainAttrs_list PySem.F.slot_list_pop PySem.F.type_list_pop mt_pop (pv 0)) (pg_tup rfl (pgs_cons (pg_name (i := 2) scTakeF.nd rfl (.inl rfl)) (pgs_cons (pg_name (i := 3) scTakeF.nd rfl (.inl rfl)) pgs_nil))))
      (pss_one (ps_if (pt_cmpR op_lt (pv 1) (pv 3) (nomark _))
        (pss_one (ps_expr (pe_bm PySem.F.plainAttrs_list PySem.F.slot_list_append PySem.F.type_list_append mt_append (pv 0) (pa_cons (pe_tup (pa_cons (pv 2) (pa_cons (pe_op op_sub (pv 3) (pv 1)) pa_nil))) pa_nil)))) pss_nil)), ?_⟩
    obtain ⟨us, a, u, rfl, k1, t1, t2⟩ := PrsV.last kP
    have lu : us.length = r.length := by rw [PrsV.len k1, List.length_reverse]
    have b1 : But R H (upd H R (.lst us)) := .set
    have tp1 : Tups K H (upd H R (.lst us)) := b1.tups hR
    have t1' := tp1 _ _ t1
    have t2' := t2.up tp1
    have k1' := PrsV.up tp1 k1
    refine ⟨.ref R, rfl, .inl ⟨rfl, _, .inl (.inl hR)⟩, R, us ++ [.ref a], .ref a, rfl, rfl, hR, by simp, ?_⟩
    rw [List.dropLast_concat]
    refine ⟨a, _, rfl, t1', rfl, u, _, rfl, _, [], rfl, rfl, ?_⟩
    refine ⟨_, rfl, _, rfl, _, _, rfl, rfl, _, rfl, ite2 (fun e => ?_) (fun e => ?_)⟩
    · have e : (k : Int) < (t : Int) := of_decide_eq_true e
      refine ⟨.ref R, rfl, .inl ⟨rfl, _, .inl (.inl upd_same)⟩, u, rfl, _, rfl, _, rfl, _, _, rfl, rfl, (show 2 ≤ sizeLine from by decide), fun x nx => ?_⟩
      have s3 := sameN (o := .tup [u, .int ((t : Int) - (k : Int))]) nx
      refine ⟨R, us, _, rfl, rfl, s3 _ _ upd_same, line5 (by omega), q _ ((b1.trans (Same.but s3)).trans .set) ⟨_, upd_same, ?_⟩⟩
      have tt : Tups K (upd (upd H R (.lst us)) x (.tup [u, .int ((t : Int) - (k : Int))])) (upd (upd (upd H R (.lst us)) x (.tup [u, .int ((t : Int) - (k : Int))])) R (.lst (us ++ [.ref x]))) := (But.set (p := R)).tups (s3 _ _ upd_same)
      rw [takeF_def, if_pos (by omega), List.reverse_cons]
      refine (PrsV.up tt (PrsV.up (.of s3) k1')).app (PrsV.one (p := (n, t - k)) (tt _ _ (.inl (.inl ?_))) ((t2'.up (.of s3)).up tt))
      rw [upd_same]
      exact congrArg (fun z => some (HO.tup [u, z])) (int_congr (by show (t : Int) - (k : Int) = ((t - k : Nat) : Int); omega))
    · have e : ¬ (k : Int) < (t : Int) := fun z => e (decide_eq_true z)
      refine q _ b1 ⟨us, upd_same, ?_⟩
      rw [takeF_def, if_neg (by omega)]
      exact k1'
theorem scOpenF : FnScope ["rest", "node", "_", "part"] ["rest"] (defScope sOpenFirst) := ⟨rfl, rfl, rfl, by decide +kernel, rfl, by decide +kernel, by decide +kernel⟩
def spOpenF (K : PySem.W.Frag) : Sp := fun vs H Q _ => ∃ (R : Addr) (n : Nd) (t : Nat) (r : List (Nd × Nat)), vs = [.ref R] ∧ RstV K H R ((n, t) :: r) ∧ Rst ((n, t) :: r) ∧ isElN n = false ∧ ∀ H', But R H H' → RstV K H' R (openF ((n, t) :: r)) → Q .non H'
theorem RstV.tups {H : Hp} {R : Addr} {st : List (Nd × Nat)} (h : RstV K H R st) {H' : Hp} (b : But R H H') : Tups K H H' := let ⟨_, e, _⟩ := h; b.tups e
theorem ok_openF {f g r : Addr} {fd gd rd : FuncData} {k : Nat} (F : Fun K "open_first" "open_first" sOpenFirst f fd) (T : Fun K "take_first" "take_first" sTakeFirst g gd) (gT : mg "take_first" = some (.ref g)) (bT : Binds K gd ["rest", "times"] [])
    (R' : Fun K "is_run" "is_run" sIsRun r rd) (gR : mg "is_run" = some (.ref r)) (bR : Binds K rd ["value"] []) (mi : mg "isinstance" = none) (mt : mg "tuple" = none) (mv : mg "reversed" = none) : FnOk P w K mg base CX0 (k + 2) f fd ["rest"] (spOpenF K) := by
  have GT : FnOk P w K mg base CX0 (k + 1) g gd ["rest", "times"] (spTakeF K) := ok_takeF T
  have GR : FnOk P w K mg base CX0 (k + 1) r rd ["value"] (spIsRun K) := ok_isrun R' mi mt
  refine F.ok scOpenF (fun vs H Q E h => ?_) (fun cdv A outer s H vs Q E hr h => ?_)
  · obtain ⟨R, n, t, r, rfl, _⟩ := h
    rfl
  · obtain ⟨R, n, t, r, rfl, hV, hS, ne, q⟩ := h
    refine ⟨_, pss_cons (ps_asg (pe_ix ix_list (pv 0) (pe_un un_neg pe_int) (fun _ _ => rfl)) (pg_tup rfl (pgs_cons (pg_name (i := 1) scOpenF.nd rfl (.inl rfl)) (pgs_cons (pg_name (i := 2) scOpenF.nd rfl (.inl rfl)) pgs_nil))))
      (pss_cons (ps_expr (pe_call GT hr (by rfl) gT T.kp bT .nil pass0 (pa_cons (pv 0) (pa_cons pe_int pa_nil))))
      (pss_one (ps_if (pt_val (pe_call GR hr (by rfl) gR R'.kp bR .nil pass0 (pa_cons (pv 1) pa_nil)))
        (pss_one (ps_expr (pe_bm PySem.F.plainAttrs_list PySem.F.slot_list_append PySem.F.type_list_append mt_append (pv 0) (pa_cons (pe_tup (pa_cons (pe_ix ix_tup (pv 1) pe_int (fun _ _ => rfl)) (pa_cons (pe_ix ix_tup (pv 1) pe_int (fun _ _ => rfl)) pa_nil))) pa_nil))))
        (pss_one (ps_expr (pe_bm PySem.F.plainAttrs_list PySem.F.slot_list_extend PySem.F.type_list_extend mt_extend (pv 0) (pa_cons
          (pe_lc (own := [("part", 3)]) (g := gName 3) (tt := tYes) (te := tTup (tCons (tVar 3) (tCons (tC (.int 1)) tNil))) rfl scOpenF.nd (RT.pi_revA (by rfl) mv (pe_ix ix_tup (pv 1) pe_int (fun _ _ => rfl))) (blkOk_by (N := ["rest", "node", "_", "part"]) (sc := defScope sOpenFirst) (by decide +kernel))
            (fun _ _ _ _ _ => pg_name (i := 3) scOpenF.nd rfl (Or.inl rfl)) (fun _ _ _ _ _ => pts_nil) (fun _ _ _ _ _ => pe_tup (pa_cons (pv 3) (pa_cons pe_int pa_nil)))) pa_nil))))))), ?_⟩
    have hlen := hS.len
    rw [List.length_cons] at hlen
    obtain ⟨l', l8, okn, c1, c2, h18⟩ := hS.mem (n, t) List.mem_cons_self
    obtain ⟨ws, hR, kP⟩ := id hV
    obtain ⟨us, a, u, rfl, k1, t1, t2⟩ := PrsV.last kP
    refine ⟨.ref R, rfl, 1, rfl, R, _, -1, .ref a, rfl, rfl, .inl (.inl hR), atI_last _ _, a, _, rfl, t1, rfl, u, _, rfl, _, [], rfl, rfl, ?_⟩
    refine ⟨.ref R, rfl, R, 1, n, t, r, rfl, hV, by omega, fun H1 b1 hV1 => ?_⟩
    have tp1 := hV.tups b1
    have hu1 := t2.up tp1
    refine ⟨u, rfl, u, n, rfl, hu1, fun H2 s2 => ?_⟩
    have hu2 := hu1.up (.of (K := K) s2)
    have hV2 := hV1.up s2
    have b2 := b1.trans (Same.but (p := R) s2)
    have hlt : (takeF 1 ((n, t) :: r)).length ≤ 27 := by
      rw [takeF_def]
      split
      · rw [List.length_cons]
        omega
      · omega
    obtain ⟨ws2, hR2, kP2⟩ := id hV2
    have lw2 : ws2.length ≤ 27 := by rw [PrsV.len kP2, List.length_reverse]; exact hlt
    cases n with
    | el k => cases ne
    | run b c =>
      obtain ⟨ra, v2, rfl, g1, g2⟩ := hu2.run
      refine ⟨_, rfl, iteT ?_⟩
      refine ⟨.ref R, rfl, .inl ⟨rfl, _, .inl (.inl hR2)⟩, .ref ra, rfl, ra, _, 1, v2, rfl, rfl, g1, rfl, .ref ra, rfl, ra, _, 2, _, rfl, rfl, g1, rfl, (show 2 ≤ sizeLine from by decide), fun x nx => ?_⟩
      have s3 := sameN (o := .tup [v2, .int (c : Nat)]) nx
      refine ⟨R, ws2, _, rfl, rfl, s3 _ _ hR2, line5 (by omega), q _ ((b2.trans (Same.but s3)).trans .set) ⟨_, upd_same, ?_⟩⟩
      have tt : Tups K (upd H2 x (.tup [v2, .int (c : Nat)])) (upd (upd H2 x (.tup [v2, .int (c : Nat)])) R (.lst (ws2 ++ [.ref x]))) := (But.set (p := R)).tups (s3 _ _ hR2)
      rw [openF_run, List.reverse_cons]
      exact (PrsV.up tt (PrsV.up (.of s3) kP2)).app (PrsV.one (p := (b, c)) (tt _ _ (.inl (.inl upd_same))) ((g2.up (.of s3)).up tt))
    | blk ps =>
      obtain ⟨ra, rb, vs, rfl, g1, g2, g3⟩ := hu2.blk
      have lps : ps.length ≤ 3 := by
        unfold Ok at okn
        omega
      have lvs := g3.len
      refine ⟨_, rfl, iteF ?_⟩
      refine ⟨.ref R, rfl, .inl ⟨rfl, _, .inl (.inl hR2)⟩, .ref ra, rfl, ra, _, 1, .ref rb, rfl, rfl, g1, rfl, ?_⟩
      refine ⟨rb, vs, rfl, .inr ⟨g2, fun D nD => ?_⟩⟩
      refine lc_revT (xs := vs) (fun i H' => ∃ zs, H' D = some (.lst zs) ∧ PrsV K H' zs ((ps.map fun n => (n, 1)).reverse.take i) ∧ Same H2 H') ⟨[], upd_same, by rw [List.take_zero]; exact .nil, sameN nD⟩ (fun i H' _ hp => ?_) (fun i x H' hi hx hp => ?_) (fun H3 hp => ?_)
      · obtain ⟨_, _, _, s3⟩ := hp
        exact sameT s3 g2
      · obtain ⟨zs, e1, e2, s3⟩ := hp
        obtain ⟨m, hm, km⟩ := (g3.up (.of s3)).get hx
        have tk : (ps.map fun n => (n, 1)).reverse.take (i + 1) = (ps.map fun n => (n, 1)).reverse.take i ++ [(m, 1)] := by
          refine take_more ?_
          rw [List.getElem?_reverse (by rw [List.length_map]; omega), List.length_map, List.getElem?_map, ← lvs, hm]
          rfl
        have lz : zs.length ≤ 3 := by
          rw [PrsV.len e2, List.length_take, List.length_reverse, List.length_map]
          omega
        refine ⟨rfl, x, rfl, (show 2 ≤ sizeLine from by decide), fun T nT => ?_⟩
        have s4 := sameN (o := .tup [x, .int 1]) nT
        refine ⟨zs, s4 _ _ e1, line5 (by omega), zs ++ [.ref T], upd_same, ?_, sameW (s3.trans s4) nD⟩
        have tt : Tups K (upd H' T (.tup [x, .int 1])) (upd (upd H' T (.tup [x, .int 1])) D (.lst (zs ++ [.ref T]))) := (But.set (p := D)).tups (s4 _ _ e1)
        rw [tk]
        exact (PrsV.up tt (PrsV.up (.of s4) e2)).app (PrsV.one (p := (m, 1)) (tt _ _ (.inl (.inl upd_same))) ((km.up (.of s4)).up tt))
      · obtain ⟨zs, e1, e2, s3⟩ := hp
        rw [List.take_of_length_le (by rw [List.length_reverse, List.length_map]; omega)] at e2
        have lz : zs.length ≤ 3 := by
          rw [PrsV.len e2, List.length_reverse, List.length_map]
          omega
        refine ⟨R, D, ws2, zs, rfl, rfl, s3 _ _ hR2, e1, small_line (by omega), q _ ((b2.trans (Same.but s3)).trans .set) ⟨_, upd_same, ?_⟩⟩
        have tt : Tups K H3 (upd H3 R (.lst (ws2 ++ zs))) := (But.set (p := R)).tups (s3 _ _ hR2)
        rw [openF_blk, List.reverse_append]
        exact (PrsV.up tt (PrsV.up (.of s3) kP2)).app (PrsV.up tt e2)
end
/-! ### what two rests have in common -/
def cpl : List Nat → List Nat → Nat
  | a :: x, b :: y => if a = b then cpl x y + 1 else 0
  | _, _ => 0
theorem cpl_app : ∀ (p x y : List Nat), cpl (p ++ x) (p ++ y) = p.length + cpl x y
  | [], x, y => by simp
  | a :: p, x, y => by
    rw [List.cons_append, List.cons_append, cpl, if_pos rfl, cpl_app p x y, List.length_cons]
    omega
theorem cpl_nil (y : List Nat) : cpl [] y = 0 := by cases y <;> rfl
theorem cpl_nil' (x : List Nat) : cpl x [] = 0 := by cases x <;> rfl
def wp : Nd × Nat → Nat
  | (.el _, _) => 1
  | (n, t) => (prs n).length * t
def wst : List (Nd × Nat) → Nat
  | [] => 0
  | p :: r => wp p + wst r
theorem wst_app : ∀ (a b : List (Nd × Nat)), wst (a ++ b) = wst a + wst b
  | [], b => by simp [wst]
  | p :: r, b => by
    show wst (p :: (r ++ b)) = _
    rw [wst, wst, wst_app r b]
    omega
theorem wp_one {n : Nd} : wp (n, 1) = (prs n).length ∨ ∃ k, n = .el k := by
  cases n with
  | el k => exact .inr ⟨k, rfl⟩
  | run b c =>
    refine .inl ?_
    show (prs (.run b c)).length * 1 = _
    omega
  | blk ps =>
    refine .inl ?_
    show (prs (.blk ps)).length * 1 = _
    omega
theorem wp_one' (n : Nd) : wp (n, 1) = (prs n).length := by
  rcases wp_one (n := n) with h | ⟨k, rfl⟩
  · exact h
  · simp [wp, prs]
theorem wst_ones : ∀ ps : List Nd, wst (ps.map fun n => (n, 1)) = (prss ps).length
  | [] => rfl
  | a :: q => by rw [List.map_cons, wst, wst_ones q, wp_one', prss, List.length_append]
theorem wst_take {n : Nd} {t k : Nat} {r : List (Nd × Nat)} (ne : isElN n = false) (hk : k ≤ t) : wst (takeF k ((n, t) :: r)) + k * (prs n).length = wst ((n, t) :: r) := by
  have e : ∀ j, wp (n, j) = (prs n).length * j := fun j => by
    cases n with
    | el k => cases ne
    | run b c => rfl
    | blk ps => rfl
  rw [takeF_def, wst, e]
  obtain ⟨d, rfl⟩ : ∃ d, t = k + d := ⟨t - k, by omega⟩
  rw [Nat.mul_add, Nat.mul_comm k]
  split
  · rw [wst, e, show k + d - k = d by omega]
    omega
  · rw [show d = 0 by omega]
    omega
theorem wst_takeE {a t k : Nat} {r : List (Nd × Nat)} : wst (takeF k ((.el a, t) :: r)) ≤ wst ((.el a, t) :: r) ∧ (k = t → wst (takeF k ((.el a, t) :: r)) + 1 = wst ((.el a, t) :: r)) := by
  rw [takeF_def, wst]
  constructor
  · split
    · rw [wst]
      exact Nat.le_refl _
    · omega
  · intro e
    rw [if_neg (by omega)]
    show wst r + 1 = 1 + wst r
    omega
theorem wst_open {n : Nd} {t l : Nat} {r : List (Nd × Nat)} (ok : Ok n l) (ne : isElN n = false) (t1 : 1 ≤ t) : wst (openF ((n, t) :: r)) = wst ((n, t) :: r) := by
  rw [← wst_take ne t1]
  cases n with
  | el k => cases ne
  | run b c =>
    rw [openF_run, wst]
    have : wp (b, c) = (prs (.run b c)).length := by
      unfold Ok at ok
      cases b with
      | el k => simp [wp, prs]
      | run _ _ => cases ok.2.2.1
      | blk ps =>
        have e2 : prs (.run (.blk ps) c) = (List.replicate c (prss ps)).flatten := by rw [prs]
        have e3 : prs (.blk ps) = prss ps := by rw [prs]
        show (prs (.blk ps)).length * c = _
        rw [e2, e3, rep_len]
    omega
  | blk ps =>
    rw [openF_blk, wst_app, wst_ones, prs]
    omega
/-- a rest whose first node is no run -/
def opr : List (Nd × Nat) → List (Nd × Nat)
  | [] => []
  | (n, t) :: r => if n.isRun = true then openF ((n, t) :: r) else (n, t) :: r
theorem opr_def {n : Nd} {t : Nat} {r : List (Nd × Nat)} : opr ((n, t) :: r) = if n.isRun = true then openF ((n, t) :: r) else (n, t) :: r := rfl
theorem opr_all {n : Nd} {t : Nat} {r : List (Nd × Nat)} (h : Rst ((n, t) :: r)) : Rst (opr ((n, t) :: r)) ∧ expd (opr ((n, t) :: r)) = expd ((n, t) :: r) ∧ wst (opr ((n, t) :: r)) = wst ((n, t) :: r) ∧ topH (opr ((n, t) :: r)) ≤ ht n ∧
    ∃ n' t' r', opr ((n, t) :: r) = (n', t') :: r' ∧ n'.isRun = false := by
  obtain ⟨l', l8, okn, c1, c2, h18⟩ : ∃ l', l' ≤ 8 ∧ Ok n l' ∧ 1 ≤ t ∧ t ≤ 10 ^ 60 ∧ ht n < 18 := h.mem (n, t) List.mem_cons_self
  rw [opr_def]
  split
  · rename_i e
    cases n with
    | el k => cases e
    | blk ps => cases e
    | run b c =>
      refine ⟨h.open rfl, openF_expd c1, wst_open okn rfl c1, Nat.le_of_lt (openF_topH h rfl), b, c, _, openF_run, ?_⟩
      unfold Ok at okn
      exact okn.2.2.1
  · rename_i e
    exact ⟨h, rfl, rfl, Nat.le_refl _, n, t, r, rfl, by simpa using e⟩
/-! ### what is left of a tree -/
section
variable {P : Program} {w : World} {K : PySem.W.Frag} {mg : Str → Option Value} {base : Heap}
/-- a tree's elements -/
def TreeE (K : PySem.W.Frag) (H : Hp) (v : V) (xs : List Nat) : Prop := (v = .non ∧ xs = []) ∨ (∃ n l, NdV K H v n ∧ Ok n l ∧ l ≤ 8 ∧ ht n < 18 ∧ els n = xs ∧ (prs n).length ≤ 20000)
theorem TreeE.up {H H' : Hp} {v : V} {xs : List Nat} (h : TreeE K H v xs) (e : Tups K H H') : TreeE K H' v xs := h.imp id fun ⟨n, l, h1, h2⟩ => ⟨n, l, h1.up e, h2⟩
theorem scRestF : FnScope ["tree", "index", "rest", "node", "times", "size", "whole"] ["tree", "index"] (defScope sRestFrom) := ⟨rfl, rfl, rfl, by decide +kernel, rfl, by decide +kernel, by decide +kernel⟩
def spRestF (K : PySem.W.Frag) : Sp := fun vs H Q _ => ∃ (v : V) (xs : List Nat) (idx : Nat), vs = [v, .int idx] ∧ TreeE K H v xs ∧ ∀ H' R st, Same H H' → H R = none → RstV K H' R st → Rst st → expd st = xs.drop idx → wst st ≤ 20000 → Q (.ref R) H'
theorem drop_take {n : Nd} {t k i : Nat} {r : List (Nd × Nat)} (hk : k ≤ t) (hi : k * sz n ≤ i) : (expd ((n, t) :: r)).drop i = (expd (takeF k ((n, t) :: r))).drop (i - k * sz n) := by
  rw [takeF_expd hk, List.drop_append, rep_len, els_len, Nat.mul_comm (sz n) k, List.drop_eq_nil_of_le (by rw [rep_len, els_len, Nat.mul_comm]; exact hi), List.nil_append]
theorem wst_take_le {n : Nd} {t k : Nat} {r : List (Nd × Nat)} (hk : k ≤ t) : wst (takeF k ((n, t) :: r)) ≤ wst ((n, t) :: r) := by
  cases e : isElN n with
  | false =>
    have := wst_take (r := r) e hk
    omega
  | true =>
    cases n with
    | run b c => cases e
    | blk ps => cases e
    | el a => exact wst_takeE.1
structure RestF (K : PySem.W.Frag) (mg : Str → Option Value) (uS uR uB uT uO : Addr) (vS vR vB vT vO : FuncData) : Prop where
  S : Fun K "size_of" "size_of" sSize uS vS
  R : Fun K "is_run" "is_run" sIsRun uR vR
  B : Fun K "is_block" "is_block" sIsBlk uB vB
  T : Fun K "take_first" "take_first" sTakeFirst uT vT
  O : Fun K "open_first" "open_first" sOpenFirst uO vO
  gS : mg "size_of" = some (.ref uS)
  gR : mg "is_run" = some (.ref uR)
  gB : mg "is_block" = some (.ref uB)
  gT : mg "take_first" = some (.ref uT)
  gO : mg "open_first" = some (.ref uO)
  bS : Binds K vS ["node"] []
  bR : Binds K vR ["value"] []
  bB : Binds K vB ["value"] []
  bT : Binds K vT ["rest", "times"] []
  bO : Binds K vO ["rest"] []
  isinstance : mg "isinstance" = none
  tuple : mg "tuple" = none
  sum : mg "sum" = none
  reversed : mg "reversed" = none
  min : mg "min" = none
theorem ok_restF {f uS uR uB uT uO : Addr} {fd vS vR vB vT vO : FuncData} (F : Fun K "rest_from" "rest_from" sRestFrom f fd) (X : RestF K mg uS uR uB uT uO vS vR vB vT vO) : FnOk P w K mg base CX0 20 f fd ["tree", "index"] (spRestF K) := by
  have GS : FnOk P w K mg base CX0 19 uS vS ["node"] (spSize K 18) := ok_size X.S X.gS X.bS X.R X.gR X.bR X.B X.gB X.bB X.isinstance X.tuple X.sum 18
  have GT : FnOk P w K mg base CX0 1 uT vT ["rest", "times"] (spTakeF K) := ok_takeF X.T
  have GO : FnOk P w K mg base CX0 2 uO vO ["rest"] (spOpenF K) := ok_openF X.O X.T X.gT X.bT X.R X.gR X.bR X.isinstance X.tuple X.reversed
  refine F.ok scRestF (fun vs H Q E h => ?_) (fun cdv A outer s H vs Q E hr h => ?_)
  · obtain ⟨v, xs, idx, rfl, _⟩ := h
    rfl
  · obtain ⟨v, xs, idx, rfl, hT, q⟩ := h
    have r1 := hr.mono (j := 1) (by omega)
    have r2 := hr.mono (j := 2) (by omega)
    refine ⟨_, pss_cons (ps_set (i := 2) scRestF.nd rfl (.inl rfl) (pe_lst pa_nil))
      (pss_cons (ps_if (pt_cmpR op_notN (pv 0) pe_non (nomark _)) (pss_one (ps_expr (pe_bm PySem.F.plainAttrs_list PySem.F.slot_list_append PySem.F.type_list_append mt_append (pv 2) (pa_cons (pe_tup (pa_cons (pv 0) (pa_cons pe_int pa_nil))) pa_nil)))) pss_nil)
      (pss_cons (ps_while PassesOwn.never (PW.pt (pw_and (pt_cmpR op_gt (pv 1) pe_int (nomark _)) (pw_and1 (pt_truth (pv 2) (fun _ => rfl)))))
        (pss_cons (ps_asg (pe_ix ix_list (pv 2) (pe_un un_neg pe_int) (fun _ _ => rfl)) (pg_tup rfl (pgs_cons (pg_name (i := 3) scRestF.nd rfl (.inl rfl)) (pgs_cons (pg_name (i := 4) scRestF.nd rfl (.inl rfl)) pgs_nil))))
        (pss_cons (ps_set (i := 5) scRestF.nd rfl (.inl rfl) (pe_call GS hr (by rfl) X.gS X.S.kp X.bS .nil pass0 (pa_cons (pv 3) pa_nil)))
        (pss_one (ps_if (pt_cmpR op_lt (pv 1) (pv 5) (nomark _))
          (pss_one (ps_expr (pe_call GO r2 (by rfl) X.gO X.O.kp X.bO .nil pass0 (pa_cons (pv 2) pa_nil))))
          (pss_cons (ps_set (i := 6) scRestF.nd rfl (.inl rfl) (pe_callB (L2.call_min2 rfl) (by rfl) X.min (by decide +kernel) (pa_cons (pv 4) (pa_cons (pe_op op_fdivW (pv 1) (pv 5)) pa_nil))))
          (pss_cons (ps_expr (pe_call GT r1 (by rfl) X.gT X.T.kp X.bT .nil pass0 (pa_cons (pv 2) (pa_cons (pv 6) pa_nil))))
          (pss_one (ps_aug (i := 1) scRestF.nd rfl (.inl rfl) (pe_op op_mulW (pv 6) (pv 5)) ip_sub)))))))))
      (pss_one (ps_ret (pv 2))))), ?_⟩
    refine ⟨(show 0 ≤ sizeLine from by decide), fun R nR => ?_⟩
    have s0 := sameN (o := .lst []) nR
    dsimp only [tSeq]
    refine ifs_any (fun b H' => b = (!decide (v = .non)) ∧ upd H R (.lst []) = H') (fun b H1 hb => ?_) (fun R' hR' => ⟨v, rfl, rfl, _, rfl, hR' _ _ ⟨rfl, rfl⟩⟩)
    obtain ⟨eb, rfl⟩ := hb
    refine joinS (b := b) (fun σ H' => ∃ st, σ = [some v, some (.int idx), some (.ref R), none, none, none, none] ∧ RstV K H' R st ∧ Rst st ∧ expd st = xs ∧ wst st ≤ 20000 ∧ Same H H') (fun σ H1 hS => ?_) (fun e N hN => ?_) (fun e N hN => ?_)
    rotate_left
    · rw [e] at eb
      rcases hT with ⟨rfl, rfl⟩ | ⟨n, l, hn, okn, l8, h18, en, lw⟩
      · exact absurd eb (by decide)
      refine ⟨.ref R, rfl, .inl ⟨rfl, _, .inl (.inl upd_same)⟩, v, rfl, (show 2 ≤ sizeLine from by decide), fun x nx => ?_⟩
      have s3 := sameN (o := .tup [v, .int 1]) nx
      refine ⟨R, [], _, rfl, rfl, s3 _ _ upd_same, (show 0 < sizeLine from by decide), hN _ _ ⟨[(n, 1)], rfl, ⟨[.ref x], upd_same, ?_⟩, .one okn l8 h18, ?_, by rw [wst, wst, wp_one']; exact lw, sameW (s0.trans s3) nR⟩⟩
      · have tt : Tups K (upd (upd H R (.lst [])) x (.tup [v, .int 1])) (upd (upd (upd H R (.lst [])) x (.tup [v, .int 1])) R (.lst [.ref x])) := (But.set (p := R)).tups (s3 _ _ upd_same)
        exact PrsV.one (p := (n, 1)) (tt _ _ (.inl (.inl upd_same))) (((hn.up (.of s0)).up (.of s3)).up tt)
      · rw [← en]
        simp [expd]
    · rw [e] at eb
      have ev : v = .non := by
        have h1 : decide (v = .non) = true := by
          cases z : decide (v = .non) with
          | true => rfl
          | false => rw [z] at eb; cases eb
        exact of_decide_eq_true h1
      rcases hT with ⟨_, rfl⟩ | ⟨n, l, hn, _⟩
      · exact hN _ _ ⟨[], rfl, ⟨[], upd_same, .nil⟩, .nil, rfl, Nat.zero_le _, s0⟩
      · cases n with
        | el k => rw [hn.el] at ev; cases ev
        | run b c =>
          obtain ⟨a, v2, rfl, _⟩ := hn.run
          cases ev
        | blk ps =>
          obtain ⟨a, b, vs, rfl, _⟩ := hn.blk
          cases ev
    obtain ⟨st0, rfl, hV0, hS0, ex0, w0, sm0⟩ := hS
    refine ⟨fun μ σ H' => ∃ (st : List (Nd × Nat)) (i : Nat) (y3 y4 y5 y6 : Option V), μ = i * 20 + topH st ∧ σ = [some v, some (.int i), some (.ref R), y3, y4, y5, y6] ∧ RstV K H' R st ∧ Rst st ∧ (expd st).drop i = xs.drop idx ∧ wst st ≤ 20000 ∧ Same H H',
      ⟨_, st0, idx, none, none, none, none, rfl, rfl, hV0, hS0, by rw [ex0], w0, sm0⟩, ?_⟩
    rintro μ σ H2 ⟨st, i, y3, y4, y5, y6, rfl, rfl, hV, hS, ex, hw, sm⟩
    by_cases i0 : i = 0
    · subst i0
      refine ⟨_, rfl, _, _, rfl, rfl, _, rfl, ?_⟩
      rw [decide_eq_false (show ¬ ((0 : Nat) : Int) > 0 by decide)]
      exact iteF (iteF ⟨.ref R, rfl, q _ R st sm nR hV hS ex hw⟩)
    obtain ⟨ws, hR, kP⟩ := id hV
    refine ⟨_, rfl, _, _, rfl, rfl, _, rfl, ?_⟩
    rw [decide_eq_true (show ((i : Nat) : Int) > 0 by omega)]
    refine iteT ⟨.ref R, rfl, _, .inl ⟨ws, .inl (.inl hR), rfl⟩, ?_⟩
    match st, hS, hV, kP, ex, hw with
    | [], hS, hV, kP, ex, hw =>
      have e0 : ws = [] := List.eq_nil_of_length_eq_zero (PrsV.len kP)
      subst e0
      refine iteF ⟨.ref R, rfl, q _ R [] sm nR hV hS ?_ hw⟩
      rw [← ex]
      simp [expd]
    | (n, t) :: r, hS, hV, kP, ex, hw =>
      have hlen := hS.len
      rw [List.length_cons] at hlen
      obtain ⟨l', l8, okn, c1, c2, h18⟩ : ∃ l', l' ≤ 8 ∧ Ok n l' ∧ 1 ≤ t ∧ t ≤ 10 ^ 60 ∧ ht n < 18 := hS.mem (n, t) List.mem_cons_self
      obtain ⟨us, a, u, rfl, k1, t1, t2⟩ := PrsV.last kP
      rw [show (!(us ++ [V.ref a]).isEmpty) = true by simp]
      have szp := sz_pos okn
      have topn : topH ((n, t) :: r) = ht n := rfl
      refine iteT ⟨fun σ' H' => ∃ (st' : List (Nd × Nat)) (i' : Nat) (y3 y4 y5 y6 : Option V), i' * 20 + topH st' < i * 20 + topH ((n, t) :: r) ∧ σ' = [some v, some (.int i'), some (.ref R), y3, y4, y5, y6] ∧ RstV K H' R st' ∧ Rst st' ∧ (expd st').drop i' = xs.drop idx ∧ wst st' ≤ 20000 ∧ Same H H',
        fun σ' H' ⟨st', i', z3, z4, z5, z6, e1, e2⟩ => ⟨_, e1, st', i', z3, z4, z5, z6, rfl, e2⟩, ?_⟩
      refine ⟨.ref R, rfl, 1, rfl, R, _, -1, .ref a, rfl, rfl, .inl (.inl hR), atI_last _ _, a, _, rfl, t1, rfl, u, _, rfl, _, [], rfl, rfl, ?_⟩
      refine ⟨u, rfl, u, n, l', rfl, t2, okn, by omega, h18, fun H3 s3 => ?_⟩
      have hV3 := hV.up s3
      have sm3 := sm.trans s3
      refine ⟨_, rfl, _, rfl, _, _, rfl, rfl, _, rfl, ite2 (fun e => ?_) (fun e => ?_)⟩
      · have e : ((i : Nat) : Int) < ((sz n : Nat) : Int) := of_decide_eq_true e
        have ne : isElN n = false := by
          cases n with
          | el k => simp only [sz] at e; omega
          | run b c => rfl
          | blk ps => rfl
        refine ⟨.ref R, rfl, R, n, t, r, rfl, hV3, hS, ne, fun H4 b4 hV4 => ?_⟩
        have := openF_topH hS ne
        refine ⟨_, i, _, _, _, _, by omega, rfl, hV4, hS.open ne, by rw [openF_expd c1]; exact ex, by rw [wst_open okn ne c1]; exact hw, ((Same.but sm3).trans b4).same nR⟩
      · have e : ¬ ((i : Nat) : Int) < ((sz n : Nat) : Int) := fun z => e (decide_eq_true z)
        have hsz := sz_small okn
        have hdiv : CDivW ((i : Nat) : Int) ((sz n : Nat) : Int) := by
          refine wide_div (b := 404 * l' + 202) (by omega) ?_ (by omega) (by omega)
          rw [Int.natAbs_natCast]
          exact hsz
        have em : (if ((i : Nat) : Int) / ((sz n : Nat) : Int) < ((t : Nat) : Int) then ((i : Nat) : Int) / ((sz n : Nat) : Int) else ((t : Nat) : Int)) = ((min t (i / sz n) : Nat) : Int) := by
          rw [← Int.natCast_ediv]
          split <;> omega
        have w1 : 1 ≤ i / sz n := Nat.div_pos (by omega) (by omega)
        have w2 : i / sz n * sz n ≤ i := Nat.div_mul_le_self i (sz n)
        generalize hwh : min t (i / sz n) = whole at em
        have w3 : 1 ≤ whole := by omega
        have w4 : whole ≤ t := by omega
        have w5 : whole * sz n ≤ i := Nat.le_trans (Nat.mul_le_mul_right _ (by omega)) w2
        have w6 : 1 ≤ whole * sz n := Nat.mul_pos (by omega) (by omega)
        refine ⟨_, rfl, _, rfl, _, rfl, _, _, rfl, rfl, hdiv, _, _, rfl, ?_⟩
        simp only []
        rw [em]
        refine ⟨.ref R, rfl, _, rfl, R, whole, n, t, r, rfl, hV3, by omega, fun H4 b4 hV4 => ?_⟩
        have hS4 := hS.take (k := whole) w3
        have top4 := topH_lt hS4
        refine ⟨_, rfl, _, rfl, _, rfl, _, _, rfl, rfl, (mul_sz okn (by omega) (Nat.le_trans w4 c2)).2, _, _, rfl, rfl, ?_⟩
        refine ⟨_, i - whole * sz n, some u, some (.int (t : Nat)), some (.int (sz n : Nat)), some (.int (whole : Nat)), by omega, ?_, hV4, hS4, by rw [← drop_take w4 w5]; exact ex, Nat.le_trans (wst_take_le w4) hw, ((Same.but sm3).trans b4).same nR⟩
        have ei : ((i : Nat) : Int) - ((whole : Nat) : Int) * ((sz n : Nat) : Int) = ((i - whole * sz n : Nat) : Int) := by
          rw [← Int.natCast_mul]
          omega
        rw [← ei]
        rfl
end
end C25

set_option Elab.async false
set_option linter.all false
set_option maxRecDepth 100000
namespace C25
open PySem PySem.Spec PyProof.Rows L2 Loc RZ
/-! ### the program's ways -/
section
variable {P : Program} {w : World} {K : PySem.W.Frag} {mg : Str → Option Value} {base : Heap}
theorem nd_some {K : PySem.W.Frag} {H : Hp} {v : V} {n : Nd} (h : NdV K H v n) : v ≠ .non := by
  cases n with
  | el k => rw [h.el]; exact fun z => nomatch z
  | run b c =>
    obtain ⟨a, v2, rfl, _⟩ := h.run
    exact fun z => nomatch z
  | blk ps =>
    obtain ⟨a, b, vs, rfl, _⟩ := h.blk
    exact fun z => nomatch z
theorem scHasParts : FnScope ["node"] ["node"] (defScope sHasParts) := ⟨rfl, rfl, rfl, by decide +kernel, rfl, by decide +kernel, by decide +kernel⟩
def spHasParts (K : PySem.W.Frag) : Sp := fun vs H Q _ => ∃ v n, vs = [v] ∧ NdV K H v n ∧ Q (.bl (!isElN n)) H
theorem ok_hasparts {f : Addr} {fd : FuncData} {k : Nat} (F : Fun K "has_parts" "has_parts" sHasParts f fd) (mi : mg "isinstance" = none) (mt : mg "tuple" = none) : FnOk P w K mg base CX0 (k + 1) f fd ["node"] (spHasParts K) := by
  refine F.ok scHasParts (fun vs H Q E h => ?_) (fun cdv A outer s H vs Q E hr h => ?_)
  · obtain ⟨v, n, rfl, _⟩ := h
    rfl
  · obtain ⟨v, n, rfl, hn, q⟩ := h
    refine ⟨_, pss_one (ps_ret (pe_callB call_isi (by rfl) mi PyProof.Rows.boot_isinstance (pa_cons (pv 0) (pa_cons (pe_bltn (v := .ty "tuple") (by rfl) mt PyProof.Rows.boot_tuple rfl) pa_nil)))), ?_⟩
    cases n with
    | el n =>
      have ev := hn.el
      subst ev
      exact ⟨_, rfl, _, _, _, _, false, rfl, .ty "tuple", .base (.int _), kit_ty (by decide +kernel), q⟩
    | run b c =>
      obtain ⟨a, v2, rfl, h1, h2⟩ := hn.run
      exact ⟨_, rfl, _, _, _, _, true, rfl, .ty "tuple", Loc.SqT.ty h1, kit_ty (by decide +kernel), q⟩
    | blk ps =>
      obtain ⟨a, b, vs, rfl, h1, h2, h3⟩ := hn.blk
      exact ⟨_, rfl, _, _, _, _, true, rfl, .ty "tuple", Loc.SqT.ty h1, kit_ty (by decide +kernel), q⟩
theorem scLenOf : FnScope ["tree"] ["tree"] (defScope sLenOf) := ⟨rfl, rfl, rfl, by decide +kernel, rfl, by decide +kernel, by decide +kernel⟩
theorem ok_lenof {f g : Addr} {fd gd : FuncData} {m : Nat} (F : Fun K "length_of" "length_of" sLenOf f fd) (S : FnOk P w K mg base CX0 (m + 1) g gd ["node"] (spSize K m)) (S' : Fun K "size_of" "size_of" sSize g gd) (gS : mg "size_of" = some (.ref g)) (bS : Binds K gd ["node"] []) : FnOk P w K mg base CX0 (m + 2) f fd ["tree"] (spSize K m) := by
  refine F.ok scLenOf (fun vs H Q E h => ?_) (fun cdv A outer s H vs Q E hr h => ?_)
  · obtain ⟨v, n, l, rfl, _⟩ := h
    rfl
  · obtain ⟨v, n, l, rfl, hn, ok, l20, hh, q⟩ := h
    refine ⟨_, pss_cons (ps_if (pt_cmpR op_isN (pv 0) pe_non (nomark _)) (pss_one (ps_ret pe_int)) pss_nil) (pss_one (ps_ret (pe_call S hr (by rfl) gS S'.kp bS .nil pass0 (pa_cons (pv 0) pa_nil)))), ?_⟩
    refine ⟨v, rfl, rfl, _, rfl, ?_⟩
    rw [decide_eq_false (nd_some hn)]
    exact iteF ⟨v, rfl, v, n, l, rfl, hn, ok, l20, hh, q⟩
theorem scPartAr : FnScope ["node", "begin", "index", "at", "end"] ["node", "begin", "index"] (defScope sPartAr) := ⟨rfl, rfl, rfl, by decide +kernel, rfl, by decide +kernel, by decide +kernel⟩
/-- of nodes of at most m storeys -/
def spPartAr (K : PySem.W.Frag) (m : Nat) : Sp := fun vs H Q _ => ∃ v n l b idx, vs = [v, .int (b : Nat), .int (idx : Nat)] ∧ NdV K H v n ∧ Ok n l ∧ l ≤ 20 ∧ isElN n = false ∧ At idx (n, b) ∧ ht n ≤ m ∧
  ∀ H' t v', Same H H' → H' t = some (.tup [v', .int ((stp idx (n, b)).2 : Nat)]) → NdV K H' v' (stp idx (n, b)).1 → Q (.ref t) H'
theorem ok_partar {f g r : Addr} {fd gd rd : FuncData} {m : Nat} (F : Fun K "_part_around" "_part_around" sPartAr f fd) (S : FnOk P w K mg base CX0 (m + 1) g gd ["node"] (spSize K m)) (S' : Fun K "size_of" "size_of" sSize g gd) (gS : mg "size_of" = some (.ref g)) (bS : Binds K gd ["node"] [])
    (R : Fun K "is_run" "is_run" sIsRun r rd) (gR : mg "is_run" = some (.ref r)) (bR : Binds K rd ["value"] []) (mi : mg "isinstance" = none) (mt : mg "tuple" = none) : FnOk P w K mg base CX0 (m + 2) f fd ["node", "begin", "index"] (spPartAr K m) := by
  have GR : FnOk P w K mg base CX0 (m + 1) r rd ["value"] (spIsRun K) := ok_isrun R mi mt
  refine F.ok scPartAr (fun vs H Q E h => ?_) (fun cdv A outer s H vs Q E hr h => ?_)
  · obtain ⟨v, n, l, b, idx, rfl, _⟩ := h
    rfl
  · obtain ⟨v, n, l, b, idx, rfl, hn, ok, l20, ne, at', hh, q⟩ := h
    refine ⟨_, pss_cons (ps_if (pt_val (pe_call GR hr (by rfl) gR R.kp bR .nil pass0 (pa_cons (pv 0) pa_nil)))
          (pss_one (ps_ret (pe_tup (pa_cons (pe_ix ix_tup (pv 0) pe_int (fun _ _ => rfl)) (pa_cons (pe_op op_sub (pv 2) (pe_op op_mod (pe_op op_sub (pv 2) (pv 1)) (pe_call S hr (by rfl) gS S'.kp bS .nil pass0 (pa_cons (pe_ix ix_tup (pv 0) pe_int (fun _ _ => rfl)) pa_nil)))) pa_nil))))) pss_nil)
      (pss_cons (ps_set (i := 3) scPartAr.nd rfl (.inl rfl) pe_int)
      (pss_cons (ps_set (i := 4) scPartAr.nd rfl (.inl rfl) (pe_op op_add (pv 1) (pe_call S hr (by rfl) gS S'.kp bS .nil pass0 (pa_cons (pe_ix ix_tup (pe_ix ix_tup (pv 0) pe_int (fun _ _ => rfl)) pe_int (fun _ _ => rfl)) pa_nil))))
      (pss_cons (ps_while PassesOwn.never (pt_cmpR op_le (pv 4) (pv 2) (nomark _))
        (pss_cons (ps_aug (i := 3) scPartAr.nd rfl (.inl rfl) pe_int ip_add)
        (pss_one (ps_par (i := 1) (j := 4) (by rfl) scPartAr.nd rfl rfl (by decide) rfl rfl (pa_cons (pv 4) (pa_cons (pe_op op_add (pv 4) (pe_call S hr (by rfl) gS S'.kp bS .nil pass0 (pa_cons (pe_ix ix_tup (pe_ix ix_tup (pv 0) pe_int (fun _ _ => rfl)) (pv 3) (fun _ _ => rfl)) pa_nil))) pa_nil)) (by rfl)))))
      (pss_one (ps_ret (pe_tup (pa_cons (pe_ix ix_tup (pe_ix ix_tup (pv 0) pe_int (fun _ _ => rfl)) (pv 3) (fun _ _ => rfl)) (pa_cons (pv 1) pa_nil)))))))), ?_⟩
    refine ⟨v, rfl, v, n, rfl, hn, fun H1 s1 => ?_⟩
    have hn1 := hn.up (.of s1)
    cases n with
    | el k => cases ne
    | run n c =>
      refine ⟨_, rfl, iteT ?_⟩
      obtain ⟨a, v2, rfl, h1, h2⟩ := hn1.run
      unfold Ok at ok
      have z := at'.2
      have z1 := at'.1
      simp only [sz] at z z1
      have s0 : 0 < sz n := Nat.pos_of_ne_zero fun e => by rw [e] at z; omega
      refine ⟨.ref a, rfl, a, _, 1, v2, rfl, rfl, h1, rfl, ?_⟩
      refine ⟨.int idx, rfl, .int idx, rfl, .int b, rfl, _, _, rfl, rfl, .ref a, rfl, a, _, 1, v2, rfl, rfl, h1, rfl, v2, n, l, rfl, h2, ok.2.2.2, l20, ?_, fun H2 s2 => ?_⟩
      · simp only [ht] at hh
        omega
      refine ⟨_, _, rfl, rfl, (show (0 : Int) < ((sz n : Nat) : Int) by omega), _, _, rfl, rfl, (show 2 ≤ sizeLine from by decide), fun t nt => ?_⟩
      have st := sameN (o := .tup [v2, .int ((idx : Int) - ((idx : Int) - (b : Int)) % ((sz n : Nat) : Int))]) nt
      refine q _ t v2 ((s1.trans s2).trans st) ?_ ((h2.up (.of s2)).up (.of st))
      rw [upd_same]
      refine congrArg (fun z => some (HO.tup [v2, z])) (int_congr ?_)
      show (idx : Int) - ((idx : Int) - (b : Int)) % ((sz n : Nat) : Int) = ((idx - (idx - b) % sz n : Nat) : Int)
      have m2 := Nat.mod_le (idx - b) (sz n)
      rw [Int.natCast_sub (by omega), Int.natCast_emod, Int.natCast_sub z1]
    | blk ps =>
      refine ⟨_, rfl, iteF ?_⟩
      obtain ⟨a, bb, vs, rfl, h1, h2, h3⟩ := hn1.blk
      unfold Ok at ok
      obtain ⟨l1, l2, l3, okp, _⟩ := ok
      have lv := h3.len
      have z := at'.2
      have z1 := at'.1
      simp only [sz] at z z1
      obtain ⟨x0, hx0⟩ := get_of (l := ps) (i := 0) (by omega)
      obtain ⟨v0, hv0, k0⟩ := h3.at hx0
      have szAt : ∀ (i : Nat) (x : Nd) (vx : V), ps[i]? = some x → vs[i]? = some vx → NdV K H1 vx x ∧ Ok x (l - 1) ∧ l - 1 ≤ 20 ∧ ht x < m := fun i x vx hx hv => by
        obtain ⟨x', hx', kx⟩ := h3.get hv
        have ex : x' = x := Option.some.inj (hx'.symm.trans hx)
        subst ex
        have hm := List.mem_of_getElem? hx
        have h4 := hts_mem hm
        refine ⟨kx, okp.mem _ hm, by omega, ?_⟩
        simp only [ht] at hh
        omega
      obtain ⟨kx0, ok0, l0, t0⟩ := szAt 0 x0 v0 hx0 hv0
      refine ⟨.int b, rfl, .ref a, rfl, a, _, 1, .ref bb, rfl, rfl, h1, rfl, bb, vs, 0, v0, rfl, rfl, h2, atI_nat (j := 0) hv0, ?_⟩
      refine ⟨v0, x0, l - 1, rfl, kx0, ok0, l0, by omega, fun H2 s2 => ⟨_, _, rfl, rfl, ?_⟩⟩
      refine ⟨fun m σ H' => ∃ (i b' : Nat) (x : Nd), m = ps.length - i ∧ ps[i]? = some x ∧ σ = [some (.ref a), some (.int b'), some (.int idx), some (.int i), some (.int (b' + sz x : Nat))] ∧ Same H1 H' ∧ b' ≤ idx ∧ idx < b' + szs (ps.drop i) ∧ pick idx (ps.drop i) b' = pick idx ps b,
        ⟨_, 0, b, x0, rfl, hx0, ?_, s2, z1, z, rfl⟩, ?_⟩
      · rw [Int.natCast_add]
        rfl
      rintro m' σ H3 ⟨i, b', x, rfl, hx, rfl, s3, k1, k2, k3⟩
      obtain ⟨vx, hvx, kx⟩ := h3.at hx
      have il := (List.getElem?_eq_some_iff.mp hx).1
      have ed : ps.drop i = x :: ps.drop (i + 1) := by
        rw [List.drop_eq_getElem_cons il]
        rw [List.getElem?_eq_getElem il] at hx
        rw [Option.some.inj hx]
      rw [ed, szs] at k2
      rw [ed, pick] at k3
      refine ⟨_, rfl, _, rfl, _, _, rfl, rfl, _, rfl, ite2 (fun e => ?_) (fun e => ?_)⟩
      · have e' : b' + sz x ≤ idx := by
          have : ((b' + sz x : Nat) : Int) ≤ (idx : Int) := of_decide_eq_true e
          omega
        rw [if_neg (by omega)] at k3
        have il2 : i + 1 < ps.length := by
          apply Classical.byContradiction
          intro hc
          rw [List.drop_eq_nil_of_le (by omega)] at k2
          simp only [szs] at k2
          omega
        obtain ⟨y, hy⟩ := get_of il2
        obtain ⟨vy, hvy, ky⟩ := h3.at hy
        refine ⟨fun σ' H' => σ' = [some (.ref a), some (.int (b' + sz x : Nat)), some (.int idx), some (.int (i + 1 : Nat)), some (.int (b' + sz x + sz y : Nat))] ∧ Same H1 H', fun σ' H' hN => ⟨_, by omega, i + 1, b' + sz x, y, rfl, hy, hN.1, hN.2, e', by omega, k3⟩, ?_⟩
        refine ⟨_, rfl, _, _, rfl, rfl, ?_⟩
        refine ⟨_, rfl, _, rfl, .ref a, rfl, a, _, 1, .ref bb, rfl, rfl, sameT s3 h1, rfl, _, rfl, bb, vs, _, vy, rfl, rfl, sameT s3 h2, atI_nat hvy, ?_⟩
        obtain ⟨ky1, ok1, l1', t1'⟩ := szAt (i + 1) y vy hy hvy
        refine ⟨vy, y, l - 1, rfl, ky1.up (.of s3), ok1, l1', by omega, fun H4 s4 => ⟨_, _, rfl, rfl, ?_⟩⟩
        exact ⟨_, _, rfl, rfl, s3.trans s4⟩
      · have e' : idx < b' + sz x := by
          have : ¬ ((b' + sz x : Nat) : Int) ≤ (idx : Int) := fun h => e (decide_eq_true h)
          omega
        rw [if_pos e'] at k3
        refine ⟨.ref a, rfl, a, _, 1, .ref bb, rfl, rfl, sameT s3 h1, rfl, _, rfl, bb, vs, _, vx, rfl, rfl, sameT s3 h2, atI_nat hvx, _, rfl, (show 2 ≤ sizeLine from by decide), fun t nt => ?_⟩
        have st := sameN (o := .tup [vx, .int (b' : Nat)]) nt
        refine q _ t vx ((s1.trans s3).trans st) ?_ ?_
        · rw [upd_same]
          show some (HO.tup [vx, .int (b' : Nat)]) = some (HO.tup [vx, .int ((pick idx ps b).2 : Nat)])
          rw [← k3]
        · show NdV K _ vx (pick idx ps b).1
          rw [← k3]
          exact (kx.up (.of s3)).up (.of st)
end
/-! ### elements_from -/
section
variable {P : Program} {w : World} {K : PySem.W.Frag} {mg : Str → Option Value} {base : Heap}
theorem flat_one {α : Type} (n : Nat) (x : α) : (List.replicate n [x]).flatten = List.replicate n x := by
  induction n with
  | zero => rfl
  | succ m ih =>
    rw [List.replicate_succ, List.replicate_succ, List.flatten_cons, ih]
    rfl
theorem nx3 {f : L2.St → Hp → Prop} {rt : VK} {bk ct : L2.St → Hp → Prop} {i : Nat} {v : V} {σ : L2.St} {H : Hp} (h : f (σ.set i (some v)) H) : gName i v σ H (Ends.mk f rt bk ct).nx := h
theorem nx_of {f : L2.St → Hp → Prop} {rt : VK} {bk ct : L2.St → Hp → Prop} {σ : L2.St} {H : Hp} (h : f σ H) : (Ends.mk f rt bk ct).nx σ H := h
theorem seq_if {T : TT} {t u : TS} {D : Ends} {σ : L2.St} {H : Hp} (S : Bool → Hp → Prop) (h : ∀ R : Bool → Hp → Prop, (∀ b H', S b H' → R b H') → T σ H R) (yes : ∀ H', S true H' → t { D with nx := u D } σ H') (no : ∀ H', S false H' → u D σ H') : tSeq (tIfS T t tNext) u D σ H :=
  h _ fun b H' hs => by
    cases b with
    | true =>
      rw [if_pos rfl]
      exact yes H' hs
    | false =>
      rw [if_neg Bool.false_ne_true]
      exact no H' hs
abbrev sInitL : Stmt := initOf (topS 3)
theorem scInitL : FnScope ["self", "limit"] ["self", "limit"] (defScope sInitL) := ⟨rfl, rfl, rfl, by decide +kernel, rfl, by decide +kernel, by decide +kernel⟩
theorem ok_initL {f C : Addr} {fd : FuncData} {k : Nat} (F : Fun K "__init__" "TooLong.__init__" sInitL f fd) : FnOk P w K mg base CX0 (k + 1) f fd ["self", "limit"] (spInit1 K C "limit") := by
  refine F.ok scInitL (fun vs H Q E h => ?_) (fun cdv A outer s H vs Q E hr h => ?_)
  · obtain ⟨a, v, rfl, _⟩ := h
    rfl
  · obtain ⟨a, v, rfl, ox, ha, no, q⟩ := h
    refine ⟨_, pss_one (ps_ost (pv 0) (pv 1)), ?_⟩
    exact ⟨v, rfl, .ref a, rfl, a, C, rfl, ox, no, .inl ⟨ha, fun dx n ne => q dx n ne⟩⟩
abbrev sInitI : Stmt := initOf (topS 4)
theorem scInitI : FnScope ["self", "index"] ["self", "index"] (defScope sInitI) := ⟨rfl, rfl, rfl, by decide +kernel, rfl, by decide +kernel, by decide +kernel⟩
abbrev nmEls : List Str := ["tree", "start", "stop", "wanted", "rest", "found", "node", "times", "many"]
theorem scElsF : FnScope nmEls ["tree", "start", "stop"] (defScope sElemsFrom) := ⟨rfl, rfl, rfl, by decide +kernel, rfl, by decide +kernel, by decide +kernel⟩
/-- elements of a stretch, or TooLong, of the class at C -/
def spEls (K : PySem.W.Frag) (C : Addr) : Sp := fun vs H Q E => ∃ (v : V) (xs : List Nat) (i j : Nat), vs = [v, .int i, .int j] ∧ TreeE K H v xs ∧ i ≤ j ∧
  (j - i ≤ 2000 → ∀ H' t, Same H H' → SqT K H' t (((xs.drop i).take (j - i)).map fun k : Nat => V.int (k : Int)) → Q (.ref t) H') ∧
  (2000 < j - i → ∀ d, H d = none → E (.ref C) (some d) (upd H d (.xd [("limit", .int 2000)])))
set_option maxHeartbeats 0 in
theorem ok_els {f uS uR uB uT uO uP uF C fI : Addr} {fd vS vR vB vT vO vP vF dI : FuncData} (F : Fun K "elements_from" "elements_from" sElemsFrom f fd) (X : RestF K mg uS uR uB uT uO vS vR vB vT vO) (HP : Fun K "has_parts" "has_parts" sHasParts uP vP) (gP : mg "has_parts" = some (.ref uP)) (bP : Binds K vP ["node"] [])
    (RF : Fun K "rest_from" "rest_from" sRestFrom uF vF) (gF : mg "rest_from" = some (.ref uF)) (bF : Binds K vF ["tree", "index"] []) (TL : Cls1 K mg "TooLong" "TooLong.__init__" "limit" sInitL C fI dI) {tM : Tok} (gM : mg "MOST_ELEMENTS" = some (.int 2000 tM)) (ml : mg "len" = none) :
    FnOk P w K mg base (L2.CX P w) 21 f fd ["tree", "start", "stop"] (spEls K C) := by
  have GT : FnOk P w K mg base CX0 1 uT vT ["rest", "times"] (spTakeF K) := ok_takeF X.T
  have GO : FnOk P w K mg base CX0 2 uO vO ["rest"] (spOpenF K) := ok_openF X.O X.T X.gT X.bT X.R X.gR X.bR X.isinstance X.tuple X.reversed
  have GH : FnOk P w K mg base CX0 1 uP vP ["node"] (spHasParts K) := ok_hasparts HP X.isinstance X.tuple
  have GF : FnOk P w K mg base CX0 20 uF vF ["tree", "index"] (spRestF K) := ok_restF RF X
  have GI : FnOk P w K mg base CX0 1 fI dI ["self", "limit"] (spInit1 K C "limit") := ok_initL TL.F
  refine F.okX scElsF (fun vs H Q E h => ?_) (fun cdv A outer s H vs Q E hr h => ?_)
  · obtain ⟨v, xs, i, j, rfl, _⟩ := h
    rfl
  · obtain ⟨v, xs, i, j, rfl, hT, hij, q, qE⟩ := h
    have r1 := hr.mono (j := 1) (by omega)
    have r2 := hr.mono (j := 2) (by omega)
    refine ⟨_, pss_cons (ps_set (i := 3) scElsF.nd rfl (.inl rfl) (pe_op op_sub (pv 2) (pv 1)))
      (pss_cons (ps_if (pt_cmpR op_gt (pv 3) (pe_glob (v := .int 2000) (by rfl) gM ⟨_, rfl⟩) (nomark _)) (pss_one (ps_raise1 (te := tC (.int 2000)) rfl (takes_of rfl rfl rfl rfl) TL GI r2 (pe_glob (v := .int 2000) (by rfl) gM ⟨_, rfl⟩))) pss_nil)
      (pss_cons (ps_set (i := 4) scElsF.nd rfl (.inl rfl) (pe_call GF hr (by rfl) gF RF.kp bF .nil pass0 (pa_cons (pv 0) (pa_cons (pv 1) pa_nil))))
      (pss_cons (ps_set (i := 5) scElsF.nd rfl (.inl rfl) (pe_lst pa_nil))
      (pss_cons (ps_while (passes_of rfl) (PW.pt (pw_and (pt_truth (pv 4) (fun _ => rfl)) (pw_and1 (pt_cmpR op_lt (pe_callB call_len_seq (by rfl) ml PySem.boot_len (pa_cons (pv 5) pa_nil)) (pv 3) (nomark _)))))
        (pss_cons (ps_asg (pe_ix ix_list (pv 4) (pe_un un_neg pe_int) (fun _ _ => rfl)) (pg_tup rfl (pgs_cons (pg_name (i := 6) scElsF.nd rfl (.inl rfl)) (pgs_cons (pg_name (i := 7) scElsF.nd rfl (.inl rfl)) pgs_nil))))
        (pss_one (ps_if (pt_val (pe_call GH r1 (by rfl) gP HP.kp bP .nil pass0 (pa_cons (pv 6) pa_nil)))
          (pss_one (ps_expr (pe_call GO r2 (by rfl) X.gO X.O.kp X.bO .nil pass0 (pa_cons (pv 4) pa_nil))))
          (pss_cons (ps_set (i := 8) scElsF.nd rfl (.inl rfl) (pe_callB (L2.call_min2 rfl) (by rfl) X.min (by decide +kernel) (pa_cons (pv 7) (pa_cons (pe_op op_sub (pv 3) (pe_callB call_len_seq (by rfl) ml PySem.boot_len (pa_cons (pv 5) pa_nil))) pa_nil))))
          (pss_cons (ps_expr (pe_bm PySem.F.plainAttrs_list PySem.F.slot_list_extend PySem.F.type_list_extend mt_extend (pv 5) (pa_cons (pe_op op_rep (pe_lst (pa_cons (pv 6) pa_nil)) (pv 8)) pa_nil)))
          (pss_one (ps_expr (pe_call GT r1 (by rfl) X.gT X.T.kp X.bT .nil pass0 (pa_cons (pv 4) (pa_cons (pv 8) pa_nil)))))))))))
      (pss_one (ps_ret (pe_callTy call_tuple_of (by rfl) X.tuple PyProof.Rows.boot_tuple (pa_cons (pv 5) pa_nil)))))))), ?_⟩
    have ei : (j : Int) - (i : Int) = ((j - i : Nat) : Int) := by omega
    generalize hw : j - i = wd at ei q qE
    refine ⟨_, rfl, _, rfl, _, _, rfl, rfl, ?_⟩
    show gName 3 (V.int ((j : Int) - (i : Int))) _ H _
    rw [ei]
    refine nx3 ?_
    refine seq_if (fun b H' => H = H' ∧ b = decide (((2000 : Int)) < (wd : Int))) (fun R hR => ⟨_, rfl, _, _, rfl, rfl, _, rfl, hR _ _ ⟨rfl, rfl⟩⟩) (fun H1 h1 => ?_) (fun H1 h1 => ?_)
    · obtain ⟨rfl, e⟩ := h1
      have lw : 2000 < wd := by
        have := of_decide_eq_true e.symm
        omega
      exact mk_one TL.ox TL.no fun d hd => qE lw d hd
    · obtain ⟨rfl, e⟩ := h1
      have lw : wd ≤ 2000 := by
        have := of_decide_eq_false e.symm
        omega
      replace q := q lw
      refine ⟨v, rfl, _, rfl, v, xs, i, rfl, hT, fun H1 R st0 s1 nR hV0 hS0 ex0 w0 => ?_⟩
      refine ⟨(show 0 ≤ sizeLine from by decide), fun FF nF => ?_⟩
      have RneF : R ≠ FF := fun z => by
        obtain ⟨ws, e, _⟩ := hV0
        rw [z, nF] at e
        cases e
      have nFH : H FF = none := by
        cases e : H FF with
        | none => rfl
        | some u => rw [s1 _ _ e] at nF; cases nF
      refine ⟨fun μ σ H' => ∃ (st : List (Nd × Nat)) (fs : List Nat) (y6 y7 y8 : Option V), μ = (wd - fs.length) * 20 + topH st ∧ σ = [some v, some (.int i), some (.int j), some (.int wd), some (.ref R), some (.ref FF), y6, y7, y8] ∧ RstV K H' R st ∧ Rst st ∧
          H' FF = some (.lst (fs.map fun k : Nat => V.int (k : Int))) ∧ fs ++ expd st = xs.drop i ∧ fs.length ≤ wd ∧ Same H H',
        ⟨_, st0, [], none, none, none, rfl, rfl, hV0.up (sameN nF), hS0, upd_same, ex0, Nat.zero_le _, s1.trans (sameN nF)⟩, ?_⟩
      rintro μ σ H2 ⟨st, fs, y6, y7, y8, rfl, rfl, hV, hS, hF, ex, lf, sm⟩
      have fin : (st = [] ∨ fs.length = wd) → ∀ t, H2 t = none → Q (.ref t) (upd H2 t (.tup (fs.map fun k : Nat => V.int (k : Int)))) := fun hz t nt => by
        refine q _ t (sm.trans (sameN nt)) (.inl (.inl ?_))
        rw [upd_same, ← ex]
        rcases hz with rfl | hz
        · rw [show expd [] = [] from rfl, List.append_nil, List.take_of_length_le lf]
        · rw [← hz, List.take_left']
          rfl
      obtain ⟨ws, hR, kP⟩ := id hV
      match st, hS, hV, kP, ex, fin with
      | [], hS, hV, kP, ex, fin =>
        have e0 : ws = [] := List.eq_nil_of_length_eq_zero (PrsV.len kP)
        subst e0
        refine ⟨.ref R, rfl, _, .inl ⟨[], .inl (.inl hR), rfl⟩, ?_⟩
        exact iteF (iteF ⟨.ref FF, rfl, FF, _, rfl, .inl ⟨.inl (.inl hF), fun t nt => fin (.inl rfl) t nt⟩⟩)
      | (n, t) :: r, hS, hV, kP, ex, fin =>
        have hlen := hS.len
        rw [List.length_cons] at hlen
        obtain ⟨l', l8, okn, c1, c2, h18⟩ : ∃ l', l' ≤ 8 ∧ Ok n l' ∧ 1 ≤ t ∧ t ≤ 10 ^ 60 ∧ ht n < 18 := hS.mem (n, t) List.mem_cons_self
        obtain ⟨us, a, u, rfl, k1, t1, t2⟩ := PrsV.last kP
        refine ⟨.ref R, rfl, _, .inl ⟨_, .inl (.inl hR), rfl⟩, ?_⟩
        rw [show (!(us ++ [V.ref a]).isEmpty) = true by simp]
        refine iteT ⟨.ref FF, rfl, FF, _, rfl, .inl (.inl (.inl hF)), _, rfl, _, _, rfl, rfl, _, rfl, ?_⟩
        rw [List.length_map]
        by_cases hlt : fs.length < wd
        · rw [decide_eq_true (show ((fs.length : Nat) : Int) < (wd : Int) by omega)]
          refine iteT ⟨fun σ' H' => ∃ (st' : List (Nd × Nat)) (fs' : List Nat) (y6 y7 y8 : Option V), (wd - fs'.length) * 20 + topH st' < (wd - fs.length) * 20 + topH ((n, t) :: r) ∧ σ' = [some v, some (.int i), some (.int j), some (.int wd), some (.ref R), some (.ref FF), y6, y7, y8] ∧ RstV K H' R st' ∧ Rst st' ∧
              H' FF = some (.lst (fs'.map fun k : Nat => V.int (k : Int))) ∧ fs' ++ expd st' = xs.drop i ∧ fs'.length ≤ wd ∧ Same H H',
            fun σ' H' ⟨st', fs', z6, z7, z8, e1, e2⟩ => ⟨_, e1, st', fs', z6, z7, z8, rfl, e2⟩, ?_⟩
          refine ⟨.ref R, rfl, 1, rfl, R, _, -1, .ref a, rfl, rfl, .inl (.inl hR), atI_last _ _, a, _, rfl, t1, rfl, u, _, rfl, _, [], rfl, rfl, ?_⟩
          have topn : topH ((n, t) :: r) = ht n := rfl
          refine nx_of ?_
          refine ifs_any (fun b H' => H2 = H' ∧ b = !isElN n) (fun b H3 hb => ?_) (fun R' hR' => ⟨u, rfl, u, n, rfl, t2, _, rfl, hR' _ _ ⟨rfl, rfl⟩⟩)
          obtain ⟨rfl, eb⟩ := hb
          cases ne : isElN n with
          | false =>
            rw [ne] at eb
            rw [eb]
            refine iteT ⟨.ref R, rfl, R, n, t, r, rfl, hV, hS, ne, fun H4 b4 hV4 => ?_⟩
            have := openF_topH hS ne
            refine ⟨_, fs, _, _, _, by omega, rfl, hV4, hS.open ne, b4 _ _ RneF.symm hF, by rw [openF_expd c1]; exact ex, lf, (Same.but sm).trans b4 |>.same nR⟩
          | true =>
            rw [ne] at eb
            rw [eb]
            cases n with
            | el k =>
              have ev := t2.el
              subst ev
              have em : (if (wd : Int) - ((fs.length : Nat) : Int) < ((t : Nat) : Int) then (wd : Int) - ((fs.length : Nat) : Int) else ((t : Nat) : Int)) = ((min t (wd - fs.length) : Nat) : Int) := by
                split <;> omega
              generalize hm : min t (wd - fs.length) = many at em
              have m1 : 1 ≤ many := by omega
              have m2 : many ≤ t := by omega
              have m3 : fs.length + many ≤ wd := by omega
              refine iteF ⟨.int t, rfl, .int wd, rfl, .ref FF, rfl, FF, _, rfl, .inl (.inl (.inl hF)), _, _, rfl, rfl, _, _, rfl, ?_⟩
              show gName 8 (V.int (if (wd : Int) - (((fs.map fun k : Nat => V.int (k : Int)).length : Nat) : Int) < ((t : Nat) : Int) then (wd : Int) - (((fs.map fun k : Nat => V.int (k : Int)).length : Nat) : Int) else ((t : Nat) : Int))) _ _ _
              rw [List.length_map, em]
              have m4 : many ≤ sizeLine := Nat.le_trans (show many ≤ 2000 by omega) (by decide)
              refine nx3 ?_
              refine ⟨.ref FF, rfl, .inl ⟨rfl, _, .inl (.inl hF)⟩, .int k, rfl, (show 1 ≤ sizeLine from by decide), fun l1 n1 => ⟨.int many, rfl, l1, many, [.int k], rfl, rfl, upd_same, by omega, by omega, ?_, fun p2 n2 => ?_⟩⟩
              · show 1 * many ≤ sizeLine
                omega
              have s1' := (sameN (o := .lst [.int (k : Nat)]) n1).trans (sameN (o := .lst (List.replicate (many : Int).toNat [V.int (k : Nat)]).flatten) n2)
              have e2 : (List.replicate (many : Int).toNat [V.int ((k : Nat) : Int)]).flatten = (List.replicate many k).map fun k : Nat => V.int (k : Int) := by
                rw [Int.toNat_natCast, List.map_replicate]
                exact flat_one many _
              refine ⟨FF, p2, _, _, rfl, rfl, s1' _ _ hF, upd_same, ?_, ?_⟩
              · rw [e2, List.length_map, List.length_map, List.length_replicate]
                exact Nat.le_trans (show fs.length + many ≤ 2000 by omega) (by decide)
              have hV3 := hV.up s1'
              generalize upd (upd H2 l1 (.lst [.int (k : Nat)])) p2 (.lst (List.replicate (many : Int).toNat [V.int (k : Nat)]).flatten) = H3 at s1' hV3
              have hF3 := s1' _ _ hF
              have hV4 : RstV K (upd H3 FF (.lst ((fs.map fun k : Nat => V.int (k : Int)) ++ (List.replicate (many : Int).toNat [V.int (k : Nat)]).flatten))) R ((.el k, t) :: r) := hV3.other (But.set (p := FF)) RneF hF3
              refine ⟨.ref R, rfl, .int many, rfl, R, many, .el k, t, r, rfl, hV4, by omega, fun H4 b4 hV5 => ?_⟩
              have hS' := hS.take (k := many) m1
              have th := topH_lt hS'
              refine ⟨takeF many ((.el k, t) :: r), fs ++ List.replicate many k, _, _, _, ?_, rfl, hV5, hS', ?_, ?_, by rw [List.length_append, List.length_replicate]; exact m3, ?_⟩
              · rw [List.length_append, List.length_replicate]
                have : (wd - (fs.length + many)) * 20 + 20 ≤ (wd - fs.length) * 20 := by omega
                omega
              · rw [b4 _ _ RneF.symm upd_same, e2, ← List.map_append]
              · rw [← ex, takeF_expd m2, List.append_assoc]
                congr 1
                congr 1
                rw [els]
                exact (flat_one many k).symm
              · have s3 : Same H (upd H3 FF (.lst ((fs.map fun k : Nat => V.int (k : Int)) ++ (List.replicate (many : Int).toNat [V.int (k : Nat)]).flatten))) := sameW (sm.trans s1') nFH
                exact ((Same.but s3).trans b4).same nR
            | run b c => cases ne
            | blk ps => cases ne
        · rw [decide_eq_false (show ¬ ((fs.length : Nat) : Int) < (wd : Int) by omega)]
          exact iteF ⟨.ref FF, rfl, FF, _, rfl, .inl ⟨.inl (.inl hF), fun t nt => fin (.inr (by omega)) t nt⟩⟩
end
end C25

set_option Elab.async false
set_option linter.all false
set_option maxRecDepth 100000
namespace C25
open PySem PySem.Spec PyProof.Rows L2 Loc RZ
section
variable {P : Program} {w : World} {K : PySem.W.Frag} {mg : Str → Option Value} {base : Heap}
theorem scWayTo : FnScope ["tree", "index", "node", "begin", "way"] ["tree", "index"] (defScope sWayTo) := ⟨rfl, rfl, rfl, by decide +kernel, rfl, by decide +kernel, by decide +kernel⟩
theorem wy_len {idx : Nat} : ∀ (m : Nat) (p : Nd × Nat), (wy idx m p).length ≤ m + 1
  | 0, p => by simp [wy]
  | m + 1, p => by
    unfold wy
    split
    · simp
    · have := wy_len (idx := idx) m (stp idx p)
      rw [List.length_cons]
      omega
theorem wy_el {idx : Nat} {k b : Nat} : ∀ m : Nat, wy idx m (.el k, b) = [(.el k, b)]
  | 0 => rfl
  | m + 1 => rfl
theorem isEl_ht {n : Nd} (h : isElN n = false) : 0 < ht n := by
  cases n with
  | el k => cases h
  | run b c => rw [ht.eq_2]; omega
  | blk ps => rw [ht.eq_3]; omega
theorem isEl_of {n : Nd} (h : isElN n = true) : ∃ k, n = .el k := by
  cases n with
  | el k => exact ⟨k, rfl⟩
  | run b c => cases h
  | blk ps => cases h
structure WayF (K : PySem.W.Frag) (mg : Str → Option Value) (uW uH uL uP uS uR uB : Addr) (vW vH vL vP vS vR vB : FuncData) : Prop where
  W : Fun K "is_whole" "is_whole" sWhole uW vW
  H : Fun K "has_parts" "has_parts" sHasParts uH vH
  L : Fun K "length_of" "length_of" sLenOf uL vL
  P : Fun K "_part_around" "_part_around" sPartAr uP vP
  S : Fun K "size_of" "size_of" sSize uS vS
  R : Fun K "is_run" "is_run" sIsRun uR vR
  B : Fun K "is_block" "is_block" sIsBlk uB vB
  gW : mg "is_whole" = some (.ref uW)
  gH : mg "has_parts" = some (.ref uH)
  gL : mg "length_of" = some (.ref uL)
  gP : mg "_part_around" = some (.ref uP)
  gS : mg "size_of" = some (.ref uS)
  gR : mg "is_run" = some (.ref uR)
  gB : mg "is_block" = some (.ref uB)
  bW : Binds K vW ["value"] []
  bH : Binds K vH ["node"] []
  bL : Binds K vL ["tree"] []
  bP : Binds K vP ["node", "begin", "index"] []
  bS : Binds K vS ["node"] []
  bR : Binds K vR ["value"] []
  bB : Binds K vB ["value"] []
  isinstance : mg "isinstance" = none
  tuple : mg "tuple" = none
  int : mg "int" = none
  bool : mg "bool" = none
  sum : mg "sum" = none
def spLenX (K : PySem.W.Frag) : Sp := fun vs H Q _ => ∃ (v : V) (xs : List Nat), vs = [v] ∧ TreeE K H v xs ∧ ∀ H', Same H H' → Q (.int (xs.length : Nat)) H'
theorem ok_lenX {f g : Addr} {fd gd : FuncData} (F : Fun K "length_of" "length_of" sLenOf f fd) (S : FnOk P w K mg base CX0 19 g gd ["node"] (spSize K 18)) (S' : Fun K "size_of" "size_of" sSize g gd) (gS : mg "size_of" = some (.ref g)) (bS : Binds K gd ["node"] []) : FnOk P w K mg base CX0 20 f fd ["tree"] (spLenX K) := by
  refine F.ok scLenOf (fun vs H Q E h => ?_) (fun cdv A outer s H vs Q E hr h => ?_)
  · obtain ⟨v, xs, rfl, _⟩ := h
    rfl
  · obtain ⟨v, xs, rfl, hT, q⟩ := h
    refine ⟨_, pss_cons (ps_if (pt_cmpR op_isN (pv 0) pe_non (nomark _)) (pss_one (ps_ret pe_int)) pss_nil) (pss_one (ps_ret (pe_call S hr (by rfl) gS S'.kp bS .nil pass0 (pa_cons (pv 0) pa_nil)))), ?_⟩
    refine ⟨v, rfl, rfl, _, rfl, ?_⟩
    rcases hT with ⟨rfl, rfl⟩ | ⟨n, l, hn, ok, l8, hh, en, _⟩
    · exact q H (Same.refl H)
    · rw [decide_eq_false (nd_some hn)]
      refine iteF ⟨v, rfl, v, n, l, rfl, hn, ok, by omega, hh, fun H1 s1 => ?_⟩
      rw [← els_len, en]
      exact q H1 s1
theorem scWhole : FnScope ["value"] ["value"] (defScope sWhole) := ⟨rfl, rfl, rfl, by decide +kernel, rfl, by decide +kernel, by decide +kernel⟩
def spWholeQ (K : PySem.W.Frag) : Sp := fun vs H Q _ => ∃ v d, vs = [v] ∧ Dq K H v d ∧ Q (.bl (whD d)) H
theorem ok_wholeQ {f : Addr} {fd : FuncData} {k : Nat} (F : Fun K "is_whole" "is_whole" sWhole f fd) (mi : mg "isinstance" = none) (mn : mg "int" = none) (mb : mg "bool" = none) : FnOk P w K mg base CX0 (k + 1) f fd ["value"] (spWholeQ K) := by
  refine F.ok scWhole (fun vs H Q E h => ?_) (fun cdv A outer s H vs Q E hr h => ?_)
  · obtain ⟨z, d, rfl, _⟩ := h
    rfl
  · obtain ⟨v, d, rfl, hv, q⟩ := h
    refine ⟨_, pss_one (ps_ret (pe_and (pe_callB call_isi (by rfl) mi PyProof.Rows.boot_isinstance (pa_cons (pv 0) (pa_cons (pe_bltn (v := .ty "int") (by rfl) mn (by decide +kernel) rfl) pa_nil)))
      (pe_one (pe_not (pe_callB call_isi (by rfl) mi PyProof.Rows.boot_isinstance (pa_cons (pv 0) (pa_cons (pe_bltn (v := .ty "bool") (by rfl) mb (by decide +kernel) rfl) pa_nil))))))), ?_⟩
    refine andV_isi (i := 0) (v := v) rfl (Same.refl H) hv (kit_int d) (fun e => ?_) (fun e => ?_)
    · refine notV_isi (i := 0) (v := v) rfl (Same.refl H) hv (kit_bool d) ?_
      have : (!isBoolD d) = whD d := by cases d <;> first | rfl | cases e
      rw [this]
      exact q
    · have : whD d = false := by cases d <;> first | rfl | cases e
      rw [this] at q
      exact q
theorem wh_inv {H : Hp} {v : V} {d : PyData} (h : Dq K H v d) (e : whD d = true) : ∃ z, d = .int z ∧ v = .int z := by
  cases h with
  | int z => exact ⟨z, rfl, rfl⟩
  | _ => cases e
/-- the way to an element, or NoIndex, of the class at C -/
def spWayX (K : PySem.W.Frag) (C : Addr) : Sp := fun vs H Q E => ∃ (v iv : V) (di : PyData) (xs : List Nat), vs = [v, iv] ∧ Dq K H iv di ∧ TreeE K H v xs ∧
  (∀ idx : Nat, di = .int idx → idx < xs.length → ∀ H' t us a k, Same H H' → SqT K H' t (us ++ [.ref a]) → SqT K H' a [.int (k : Nat), .int (idx : Nat)] → xs[idx]? = some k → Q (.ref t) H') ∧
  ((∀ idx : Nat, di = .int idx → ¬ idx < xs.length) → ∀ H' d, Same H H' → H' d = none → E (.ref C) (some d) (upd H' d (.xd [("index", iv)])))
theorem ok_initI {f C : Addr} {fd : FuncData} {k : Nat} (F : Fun K "__init__" "NoIndex.__init__" sInitI f fd) : FnOk P w K mg base CX0 (k + 1) f fd ["self", "index"] (spInit1 K C "index") := by
  refine F.ok scInitI (fun vs H Q E h => ?_) (fun cdv A outer s H vs Q E hr h => ?_)
  · obtain ⟨a, v, rfl, _⟩ := h
    rfl
  · obtain ⟨a, v, rfl, ox, ha, no, q⟩ := h
    refine ⟨_, pss_one (ps_ost (pv 0) (pv 1)), ?_⟩
    exact ⟨v, rfl, .ref a, rfl, a, C, rfl, ox, no, .inl ⟨ha, fun dx n ne => q dx n ne⟩⟩
set_option maxHeartbeats 0 in
theorem ok_wayX {f uW uH uL uP uS uR uB C fI : Addr} {fd vW vH vL vP vS vR vB dI : FuncData} (F : Fun K "way_to" "way_to" sWayTo f fd) (X : WayF K mg uW uH uL uP uS uR uB vW vH vL vP vS vR vB) (TI : Cls1 K mg "NoIndex" "NoIndex.__init__" "index" sInitI C fI dI) :
    FnOk P w K mg base (L2.CX P w) 21 f fd ["tree", "index"] (spWayX K C) := by
  have GS : FnOk P w K mg base CX0 19 uS vS ["node"] (spSize K 18) := ok_size X.S X.gS X.bS X.R X.gR X.bR X.B X.gB X.bB X.isinstance X.tuple X.sum 18
  have GL : FnOk P w K mg base CX0 20 uL vL ["tree"] (spLenX K) := ok_lenX X.L GS X.S X.gS X.bS
  have GP : FnOk P w K mg base CX0 20 uP vP ["node", "begin", "index"] (spPartAr K 18) := ok_partar X.P GS X.S X.gS X.bS X.R X.gR X.bR X.isinstance X.tuple
  have GW : FnOk P w K mg base CX0 20 uW vW ["value"] (spWholeQ K) := ok_wholeQ X.W X.isinstance X.int X.bool
  have GH : FnOk P w K mg base CX0 20 uH vH ["node"] (spHasParts K) := ok_hasparts X.H X.isinstance X.tuple
  have GI : FnOk P w K mg base CX0 1 fI dI ["self", "index"] (spInit1 K C "index") := ok_initI TI.F
  refine F.okX scWayTo (fun vs H Q E h => ?_) (fun cdv A outer s H vs Q E hr h => ?_)
  · obtain ⟨v, iv, di, xs, rfl, _⟩ := h
    rfl
  · obtain ⟨v, iv, di, xs, rfl, hD, hT, q, qE⟩ := h
    have r2 := hr.mono (j := 2) (by omega)
    refine ⟨_, pss_cons (ps_if (PW.pt (pw_or (pt_not (pt_val (pe_call GW hr (by rfl) X.gW X.W.kp X.bW .nil pass0 (pa_cons (pv 1) pa_nil))))
          (pw_or1 (pt_not (pt_chain op_le op_lt pe_int (pv 1) (pe_call GL hr (by rfl) X.gL X.L.kp X.bL .nil pass0 (pa_cons (pv 0) pa_nil))))))) (pss_one (ps_raise1 (te := tVar 1) rfl (takes_of rfl rfl rfl rfl) TI GI r2 (pv 1))) pss_nil)
      (pss_cons (ps_par (i := 2) (j := 3) (by rfl) scWayTo.nd rfl rfl (by decide) rfl rfl (pa_cons (pv 0) (pa_cons pe_int pa_nil)) (by rfl))
      (pss_cons (ps_set (i := 4) scWayTo.nd rfl (.inl rfl) (pe_lst (pa_cons (pe_tup (pa_cons (pv 2) (pa_cons (pv 3) pa_nil))) pa_nil)))
      (pss_cons (ps_while (passes_of rfl) (pt_val (pe_call GH hr (by rfl) X.gH X.H.kp X.bH .nil pass0 (pa_cons (pv 2) pa_nil)))
        (pss_cons (ps_asg (pe_call GP hr (by rfl) X.gP X.P.kp X.bP .nil pass0 (pa_cons (pv 2) (pa_cons (pv 3) (pa_cons (pv 1) pa_nil)))) (pg_tup rfl (pgs_cons (pg_name (i := 2) scWayTo.nd rfl (.inl rfl)) (pgs_cons (pg_name (i := 3) scWayTo.nd rfl (.inl rfl)) pgs_nil))))
        (pss_one (ps_expr (pe_bm PySem.F.plainAttrs_list PySem.F.slot_list_append PySem.F.type_list_append mt_append (pv 4) (pa_cons (pe_tup (pa_cons (pv 2) (pa_cons (pv 3) pa_nil))) pa_nil))))))
      (pss_one (ps_ret (pe_callTy call_tuple_of (by rfl) X.tuple PyProof.Rows.boot_tuple (pa_cons (pv 4) pa_nil))))))), ?_⟩
    refine seq_if (fun b H' => Same H H' ∧ (b = true → ∀ idx : Nat, di = .int idx → ¬ idx < xs.length) ∧ (b = false → ∃ idx : Nat, di = .int idx ∧ iv = .int idx ∧ idx < xs.length)) (fun R hR => ?_) (fun H1 h1 => ?_) (fun H1 h1 => ?_)
    · refine ⟨iv, rfl, iv, di, rfl, hD, _, rfl, ?_⟩
      cases ew : whD di with
      | false =>
        refine hR _ _ ⟨Same.refl H, fun _ idx e => ?_, fun z => nomatch z⟩
        rw [e] at ew
        cases ew
      | true =>
        obtain ⟨z, rfl, rfl⟩ := wh_inv hD ew
        refine iteF ⟨_, rfl, 0, z, rfl, rfl, decide ((0 : Int) ≤ z), rfl, ?_⟩
        cases e0 : decide ((0 : Int) ≤ z) with
        | false =>
          have z0 := of_decide_eq_false e0
          refine iteF ⟨false, rfl, hR true _ ⟨Same.refl H, fun _ idx e => ?_, fun z => nomatch z⟩⟩
          have : z = (idx : Int) := by injection e
          omega
        | true =>
          have z0 := of_decide_eq_true e0
          obtain ⟨zn, rfl⟩ : ∃ n : Nat, z = (n : Int) := ⟨z.toNat, by omega⟩
          refine iteT ⟨v, rfl, v, xs, rfl, hT, fun H1 s1 => ⟨_, _, rfl, rfl, _, rfl, ?_⟩⟩
          cases e1 : decide ((zn : Int) < ((xs.length : Nat) : Int)) with
          | false =>
            have z1 := of_decide_eq_false e1
            refine hR true _ ⟨s1, fun _ idx e => ?_, fun z => nomatch z⟩
            have : (zn : Int) = (idx : Int) := by injection e
            omega
          | true =>
            have z1 := of_decide_eq_true e1
            exact hR false _ ⟨s1, (fun z => nomatch z), fun _ => ⟨zn, rfl, rfl, by omega⟩⟩
    · obtain ⟨s0, h1, _⟩ := h1
      exact ⟨iv, rfl, mk_one TI.ox TI.no fun d hd => qE (h1 rfl) H1 d s0 hd⟩
    obtain ⟨s0, _, h1⟩ := h1
    obtain ⟨idx, ed, rfl, hi⟩ := h1 rfl
    have s1 := s0
    rcases hT with ⟨_, rfl⟩ | ⟨n, l, hn, ok, l8, hh, ex, _⟩
    · exact absurd hi (Nat.not_lt_zero _)
    have hm : (18 : Nat) ≤ 1000 := by decide
    have l20 : l ≤ 20 := by omega
    have hi' : idx < sz n := by rw [← els_len, ex]; exact hi
    clear qE
    refine ⟨v, rfl, _, _, rfl, ?_⟩
    refine ⟨v, rfl, _, rfl, (show 2 ≤ sizeLine from by decide), fun t0 n0 => ⟨(show 1 ≤ sizeLine from by decide), fun L nL => ?_⟩⟩
    have s2 := sameN (o := .tup [v, .int 0]) n0
    have s3 := sameN (o := .lst [.ref t0]) nL
    have hL0 : H L = none := by
      cases z : H L with
      | none => rfl
      | some o =>
        have := (s1.trans s2) _ _ z
        rw [nL] at this
        cases this
    refine ⟨fun μ σ H' => ∃ (nn : Nd) (b mm l' : Nat) (u : V) (ws : List V) (done : List (Nd × Nat)), μ = ht nn ∧ σ = [some v, some (.int idx), some u, some (.int b), some (.ref L)] ∧ H' L = some (.lst ws) ∧ PrsV K H' ws (done ++ [(nn, b)]) ∧ wy idx (ht n) (n, 0) = done ++ wy idx mm (nn, b) ∧
        ht nn ≤ mm ∧ ht nn < 18 ∧ At idx (nn, b) ∧ Ok nn l' ∧ l' ≤ 20 ∧ NdV K H' u nn ∧ done.length ≤ 1000 ∧ Same H H',
      ⟨_, n, 0, ht n, l, v, [.ref t0], [], rfl, rfl, upd_same, PrsV.one (p := (n, 0)) (.inl (.inl (s3 _ _ upd_same))) (((hn.up (.of s1)).up (.of s2)).up (.of s3)), rfl, Nat.le_refl _, hh, ⟨Nat.zero_le _, by show idx < 0 + sz n; omega⟩, ok, l20, ((hn.up (.of s1)).up (.of s2)).up (.of s3), Nat.zero_le _, s1.trans (s2.trans s3)⟩, ?_⟩
    rintro μ σ H2 ⟨nn, b, mm, l', u, ws, done, rfl, rfl, gL, kP, ew, hm1, hm2, hat, okn, l20', hu, ld, s4⟩
    refine ⟨u, rfl, u, nn, rfl, hu, _, rfl, ?_⟩
    cases en : isElN nn with
    | true =>
      obtain ⟨k, rfl⟩ := isEl_of en
      rw [wy_el] at ew
      obtain ⟨i0, k0, ew0, ek0⟩ := wy_last (idx := idx) (ht n) (n, 0) l ok ⟨Nat.zero_le _, by show idx < 0 + sz n; omega⟩ (by show ht n < ht n + 1; omega)
      rw [← ew, ew0] at kP
      obtain ⟨us0, a0, u0, rfl, k1, k2, k3⟩ := kP.split
      have eu := k3.el
      subst eu
      have es0 : xs[idx]? = some k0 := by
        rw [← ex, ← ek0]
        rfl
      refine ⟨.ref L, rfl, L, _, rfl, .inl ⟨.inl (.inl gL), fun t nt => q idx ed hi _ t us0 a0 k0 (s4.trans (sameN nt)) (.inl (.inl upd_same)) ?_ es0⟩⟩
      exact (show Tups K _ _ from .of (sameN nt)) _ _ k2
    | false =>
      have hp := isEl_ht en
      obtain ⟨mm', rfl⟩ : ∃ j, mm = j + 1 := ⟨mm - 1, by omega⟩
      obtain ⟨l2, ll, ok2, hlt⟩ := stp_ok (p := (nn, b)) okn hat
      have hlt := hlt en
      have at2 := (stp_at (p := (nn, b)) okn hat).1
      have ew2 : wy idx (mm' + 1) (nn, b) = (nn, b) :: wy idx mm' (stp idx (nn, b)) := by
        rw [wy]
        rw [if_neg (by rw [en]; exact Bool.false_ne_true)]
      have ld2 := wy_len (idx := idx) (ht n) (n, 0)
      rw [ew, List.length_append, ew2, List.length_cons] at ld2
      refine ⟨fun σ' H' => ∃ (u' : V) (ws' : List V), σ' = [some v, some (.int idx), some u', some (.int ((stp idx (nn, b)).2 : Nat)), some (.ref L)] ∧ H' L = some (.lst ws') ∧ PrsV K H' ws' (done ++ [(nn, b)] ++ [stp idx (nn, b)]) ∧ NdV K H' u' (stp idx (nn, b)).1 ∧ Same H H',
        fun σ' H' hN => ?_, ?_⟩
      · obtain ⟨u', ws', e1, e2, e3, e4, e5⟩ := hN
        refine ⟨ht (stp idx (nn, b)).1, hlt, (stp idx (nn, b)).1, (stp idx (nn, b)).2, mm', l2, u', ws', done ++ [(nn, b)], rfl, e1, e2, e3, ?_, ?_, ?_, at2, ok2, by omega, e4, ?_, e5⟩
        · rw [ew, ew2, List.append_assoc]
          rfl
        · have : ht (stp idx (nn, b)).1 < ht nn := hlt
          omega
        · have : ht (stp idx (nn, b)).1 < ht nn := hlt
          omega
        · rw [List.length_append, List.length_singleton]
          omega
      refine ⟨u, rfl, _, rfl, _, rfl, u, nn, l', b, idx, rfl, hu, okn, l20', en, hat, by omega, fun H3 t v' s5 ht3 hv' => ?_⟩
      refine ⟨t, _, rfl, .inl (.inl ht3), rfl, _, _, rfl, _, [], rfl, rfl, ?_⟩
      refine ⟨.ref L, rfl, .inl ⟨rfl, _, .inl (.inl (s5 _ _ gL))⟩, v', rfl, _, rfl, (show 2 ≤ sizeLine from by decide), fun t2 n2 => ?_⟩
      have s6 := sameN (o := .tup [v', .int ((stp idx (nn, b)).2 : Nat)]) n2
      have gL6 := s6 _ _ (s5 _ _ gL)
      have lw := PrsV.len kP
      rw [List.length_append, List.length_singleton] at lw
      have t9 : Tups K (upd H3 t2 (.tup [v', .int ((stp idx (nn, b)).2 : Nat)])) (upd (upd H3 t2 (.tup [v', .int ((stp idx (nn, b)).2 : Nat)])) L (.lst (ws ++ [.ref t2]))) := (But.set (p := L)).tups gL6
      refine ⟨L, _, _, rfl, rfl, gL6, line5 (by omega), v', ws ++ [.ref t2], rfl, upd_same, ?_, (hv'.up (.of s6)).up t9, ?_⟩
      · exact (PrsV.up t9 (PrsV.up (.of s6) (PrsV.up (.of s5) kP))).app (PrsV.one (p := stp idx (nn, b)) (t9 _ _ (.inl (.inl upd_same))) ((hv'.up (.of s6)).up t9))
      · exact sameW (s4.trans (s5.trans s6)) hL0
theorem scElemAt : FnScope ["tree", "index", "node", "_"] ["tree", "index"] (defScope sElemAt) := ⟨rfl, rfl, rfl, by decide +kernel, rfl, by decide +kernel, by decide +kernel⟩
/-- an element, or NoIndex, of the class at C -/
def spElemX (K : PySem.W.Frag) (C : Addr) : Sp := fun vs H Q E => ∃ (v iv : V) (di : PyData) (xs : List Nat), vs = [v, iv] ∧ Dq K H iv di ∧ TreeE K H v xs ∧
  (∀ idx : Nat, di = .int idx → idx < xs.length → ∀ H' k, Same H H' → xs[idx]? = some k → Q (.int (k : Nat)) H') ∧
  ((∀ idx : Nat, di = .int idx → ¬ idx < xs.length) → ∀ H' d, Same H H' → H' d = none → E (.ref C) (some d) (upd H' d (.xd [("index", iv)])))
theorem ok_elemX {f g C : Addr} {fd gd : FuncData} (F : Fun K "element_at" "element_at" sElemAt f fd) (G : FnOk P w K mg base (L2.CX P w) 21 g gd ["tree", "index"] (spWayX K C)) (G' : Fun K "way_to" "way_to" sWayTo g gd) (gG : mg "way_to" = some (.ref g)) (bG : Binds K gd ["tree", "index"] []) :
    FnOk P w K mg base (L2.CX P w) 22 f fd ["tree", "index"] (spElemX K C) := by
  refine F.okX scElemAt (fun vs H Q E h => ?_) (fun cdv A outer s H vs Q E hr h => ?_)
  · obtain ⟨v, iv, di, xs, rfl, _⟩ := h
    rfl
  · obtain ⟨v, iv, di, xs, rfl, hD, hT, q, qE⟩ := h
    refine ⟨_, pss_cons (ps_asg (pe_ix ix_tup (pe_call (E := E) G hr (by rfl) gG G'.kp bG .nil (passes_call (takes_of rfl rfl rfl rfl) fun _ _ _ _ h => h) (pa_cons (pv 0) (pa_cons (pv 1) pa_nil))) (pe_un un_neg pe_int) (fun _ _ => rfl)) (pg_tup rfl (pgs_cons (pg_name (i := 2) scElemAt.nd rfl (.inl rfl)) (pgs_cons (pg_name (i := 3) scElemAt.nd rfl (.inl rfl)) pgs_nil))))
      (pss_one (ps_ret (pv 2))), ?_⟩
    refine ⟨v, rfl, iv, rfl, v, iv, di, xs, rfl, hD, hT, fun idx e hi H1 t us a k s1 h1 h2 h3 => ?_, qE⟩
    refine ⟨1, rfl, t, _, -1, .ref a, rfl, rfl, h1, atI_last _ _, a, _, rfl, h2, rfl, _, _, rfl, _, [], rfl, rfl, ?_⟩
    exact ⟨_, rfl, q idx e hi H1 k s1 h3⟩
end
end C25

set_option Elab.async false
set_option linter.all false
set_option maxRecDepth 100000
namespace C25
open PySem PySem.Spec PyProof.Rows L2 Loc RZ
/-! ### the word and the value of an error -/
section
/-- what is known of the error classes -/
structure ErrF (K : PySem.W.Frag) (mg : Str → Option Value) where
  {cB : Addr} {cT : Addr} {cL : Addr} {cI : Addr} {cR : Addr} {iL : Addr} {iI : Addr} {dL : FuncData} {dI : FuncData}
  gB : mg "BlockError" = some (.ref cB)
  gT : mg "BadText" = some (.ref cT)
  gR : mg "NoRange" = some (.ref cR)
  L : Cls1 K mg "TooLong" "TooLong.__init__" "limit" sInitL cL iL dL
  I : Cls1 K mg "NoIndex" "NoIndex.__init__" "index" sInitI cI iI dI
  xL : PySem.W.exmOne K (.ref cL) (.ref cB) = some true
  xI : PySem.W.exmOne K (.ref cI) (.ref cB) = some true
  LI : PySem.W.kitOne K (.ref cL) (.ref cI) = some false
  LL : PySem.W.kitOne K (.ref cL) (.ref cL) = some true
  II : PySem.W.kitOne K (.ref cI) (.ref cI) = some true
  IL : PySem.W.kitOne K (.ref cI) (.ref cL) = some false
  Lo : PySem.W.kitAny K (.ref cL) [.ref cR, .ref cT] = some false
  Io : PySem.W.kitAny K (.ref cI) [.ref cR, .ref cT] = some false
variable {K : PySem.W.Frag} {mg : Str → Option Value}
/-- the error that may come -/
def RefE (F : ErrF K mg) (Q : VK) : XK := fun cls d H => ∃ dd v dv, d = some dd ∧ Dq K H v dv ∧ sm 4 60 100000 dv ∧
  ((cls = .ref F.cL ∧ H dd = some (.xd [("limit", v)]) ∧ ∀ H' t, Same H H' → H' t = some (.tup [.str "long", .str dv.shown]) → Q (.ref t) H') ∨
   (cls = .ref F.cI ∧ H dd = some (.xd [("index", v)]) ∧ ∀ H' t, Same H H' → H' t = some (.tup [.str "index", .str dv.shown]) → Q (.ref t) H'))
def TRef (F : ErrF K mg) : (XK → Hp → VK → Prop) → Hp → VK → Prop := fun tl H Q => ∀ R : VK, (∀ v H', Q .non H' → R v H') → tl (RefE F Q) H R
abbrev nmRef : List Str := ["ask", "caught", "e", "is_index", "is_long"]
theorem scRef : FnScope nmRef ["ask"] (defScope s__law_refusal) := ⟨rfl, rfl, rfl, by decide +kernel, rfl, by decide +kernel, by decide +kernel⟩
variable {X : Cx}
set_option maxHeartbeats 0 in
theorem ref_gives (F : ErrF X.K X.mg) {q : Str} {g : Addr} {cdg : Value} {k : Nat} (hr : Room (k + 1) X.A) (hg : X.A.guards = some []) (mi : X.mg "isinstance" = none) (mr : X.mg "repr" = none) :
    LamX.GivesTo X nmRef "_law_refusal" (defScope s__law_refusal) g cdg (defBody s__law_refusal) "ask" q (TRef F) := by
  intro f c' s H Q tl act hc h
  have hr1 : Room k (X.A.deeper (envOfC "_law_refusal" (defScope s__law_refusal) s.heap.objs.size g cdg)) := hr.deeper _
  have hg1 : (X.A.deeper (envOfC "_law_refusal" (defScope s__law_refusal) s.heap.objs.size g cdg)).guards = some [] := hg
  refine ⟨_, pss_cons (ps_set (i := 1) scRef.nd rfl (.inl rfl) pe_non)
    (pss_cons (ps_try_keep (i := 2) (j := 1) (c := .ref F.cB) (Wout := fun _ _ _ _ => False) (tb := fun W D σ H => ∃ Ech : XK, (∀ cls d σ' H', Ech cls d H' → σ'.length = 5 → W cls d σ' H') ∧ σ[0]? = some (some (.ref f)) ∧ H c' = some (LamX.CodeO c' q) ∧ tl Ech H (fun _ H' => D.nx σ H'))
        rfl rfl scRef.nd rfl rfl rfl rfl (show 2 < 5 by decide) (by decide) rfl ⟨rfl, by decide, .inl F.gB⟩ LamX.takes0 (by decide) (by decide) (fun W pn xe tk _ => ?body))
    (pss_cons (ps_if (pt_cmpR op_isN (pv 1) pe_non (nomark _)) (pss_one (ps_ret pe_non)) pss_nil)
    (pss_cons (ps_par (i := 3) (j := 4) (by rfl) scRef.nd rfl rfl (by decide) rfl rfl
        (pa_cons (pe_callB call_isV (by rfl) mi PyProof.Rows.boot_isinstance (pa_cons (pv 1) (pa_cons (pe_glob (v := .ref F.cI) (by rfl) F.I.g rfl) pa_nil)))
          (pa_cons (pe_callB call_isV (by rfl) mi PyProof.Rows.boot_isinstance (pa_cons (pv 1) (pa_cons (pe_glob (v := .ref F.cL) (by rfl) F.L.g rfl) pa_nil))) pa_nil)) (by rfl))
    (pss_cons (ps_if (PW.pt (pw_or (pt_cmpR op_eq (pv 3) (pv 4) (nomark _)) (pw_or1 (pt_val (pe_callB call_isVT (by rfl) mi PyProof.Rows.boot_isinstance (pa_cons (pv 1)
        (pa_cons (pe_tup (pa_cons (pe_glob (v := .ref F.cR) (by rfl) F.gR rfl) (pa_cons (pe_glob (v := .ref F.cT) (by rfl) F.gT rfl) pa_nil))) pa_nil)))))))
      (pss_one (ps_ret (pe_tup (pa_cons pe_str (pa_cons pe_str pa_nil))))) pss_nil)
    (pss_one (ps_ret (pe_ifExp (pt_val (pv 3)) (pe_tup (pa_cons pe_str (pa_cons (pe_callB (call_repQ hr1 hg1) (by rfl) mr PyProof.Rows.boot_repr (pa_cons (pe_errf (pv 1)) pa_nil)) pa_nil)))
      (pe_tup (pa_cons pe_str (pa_cons (pe_callB (call_repQ hr1 hg1) (by rfl) mr PyProof.Rows.boot_repr (pa_cons (pe_errf (pv 1)) pa_nil)) pa_nil)))))))))), ?_⟩
  case body =>
    refine ⟨fun pins s' σ H' D I h' => ?_⟩
    obtain ⟨Ech, hW, h1, h2, h3⟩ := h'
    exact (pss_one (ps_expr (act (fun cls d σ H => σ.length = 5 → W cls d σ H) pn xe Ech _ _ (takes_len rfl tk) hW))).run pins s' σ H' D I ⟨h1, h2, h3⟩
  refine ⟨RefE F Q, fun cls d σ' H' he hl => ?_, rfl, hc, h _ fun v H' hq => ?_⟩
  · match σ', hl with
    | [s0, s1, s2, s3, s4], _ =>
      obtain ⟨dd, v, dv, rfl, hv, sv, h1⟩ := he
      rcases h1 with ⟨rfl, hx, q⟩ | ⟨rfl, hx, q⟩
      · refine ⟨true, F.xL, fun _ => ⟨F.cL, dd, rfl, rfl, fun a na => ?_⟩, fun z => nomatch z⟩
        have sA := sameN (o := ErrO F.cL dd a) na
        have er : Err (upd H' a (ErrO F.cL dd a)) a F.cL [("limit", v)] := ⟨dd, upd_same, sA _ _ hx⟩
        generalize upd H' a (ErrO F.cL dd a) = H1 at sA er
        refine ⟨.ref a, rfl, rfl, _, rfl, ?_⟩
        rw [decide_eq_false (fun z => nomatch z)]
        refine iteF ⟨.ref a, rfl, a, F.cL, _, .ref F.cI, .ref F.cI, false, rfl, er, F.L.er, .own _, F.LI, .ref a, rfl, a, F.cL, _, .ref F.cL, .ref F.cL, true, rfl, er, F.L.er, .own _, F.LL, _, _, rfl, ?_⟩
        refine ⟨_, rfl, _, rfl, rfl, false, by simp, iteF ?_⟩
        refine ⟨.ref a, rfl, (show 2 ≤ sizeLine from by decide), fun t nt => ⟨a, F.cL, t, _, [.ref F.cR, .ref F.cT], [.ref F.cR, .ref F.cT], false, rfl, er.same (sameN nt), F.L.er, upd_same, .cons (.own _) (.cons (.own _) .nil), F.Lo, _, rfl, iteF ?_⟩⟩
        refine ⟨.bl false, rfl, _, rfl, iteF ?_⟩
        refine ⟨.ref a, rfl, a, F.cL, [("limit", v)], v, rfl, er.same (sameN nt), F.L.er, F.L.no, rfl, ?_⟩
        have s2 := sA.trans (sameN (o := .tup [.ref F.cR, .ref F.cT]) nt)
        dsimp only [tNil]
        refine (rep_any s2 hv sv (by decide) (by decide) (by decide) ?_ : rRepQ X.K [v] _ _)
        refine ⟨(show 2 ≤ sizeLine from by decide), fun t2 nt2 => ?_⟩
        exact q _ t2 (s2.trans (sameN nt2)) upd_same
      · refine ⟨true, F.xI, fun _ => ⟨F.cI, dd, rfl, rfl, fun a na => ?_⟩, fun z => nomatch z⟩
        have sA := sameN (o := ErrO F.cI dd a) na
        have er : Err (upd H' a (ErrO F.cI dd a)) a F.cI [("index", v)] := ⟨dd, upd_same, sA _ _ hx⟩
        generalize upd H' a (ErrO F.cI dd a) = H1 at sA er
        refine ⟨.ref a, rfl, rfl, _, rfl, ?_⟩
        rw [decide_eq_false (fun z => nomatch z)]
        refine iteF ⟨.ref a, rfl, a, F.cI, _, .ref F.cI, .ref F.cI, true, rfl, er, F.I.er, .own _, F.II, .ref a, rfl, a, F.cI, _, .ref F.cL, .ref F.cL, false, rfl, er, F.I.er, .own _, F.IL, _, _, rfl, ?_⟩
        refine ⟨_, rfl, _, rfl, rfl, false, by simp, iteF ?_⟩
        refine ⟨.ref a, rfl, (show 2 ≤ sizeLine from by decide), fun t nt => ⟨a, F.cI, t, _, [.ref F.cR, .ref F.cT], [.ref F.cR, .ref F.cT], false, rfl, er.same (sameN nt), F.I.er, upd_same, .cons (.own _) (.cons (.own _) .nil), F.Io, _, rfl, iteF ?_⟩⟩
        refine ⟨.bl true, rfl, _, rfl, iteT ?_⟩
        refine ⟨.ref a, rfl, a, F.cI, [("index", v)], v, rfl, er.same (sameN nt), F.I.er, F.I.no, rfl, ?_⟩
        have s2 := sA.trans (sameN (o := .tup [.ref F.cR, .ref F.cT]) nt)
        dsimp only [tNil]
        refine (rep_any s2 hv sv (by decide) (by decide) (by decide) ?_ : rRepQ X.K [v] _ _)
        refine ⟨(show 2 ≤ sizeLine from by decide), fun t2 nt2 => ?_⟩
        exact q _ t2 (s2.trans (sameN nt2)) upd_same
  · refine ⟨_, rfl, rfl, _, rfl, ?_⟩
    rw [decide_eq_true rfl]
    exact iteT hq
end
end C25

set_option Elab.async false
set_option linter.all false
set_option maxRecDepth 100000
namespace C25
open PySem PySem.Spec PyProof.Rows L2 Loc RZ
/-! ### the law's own element -/
section
variable {P : Program} {w : World} {K : PySem.W.Frag} {mg : Str → Option Value} {base : Heap}
theorem drop_at {α : Type} {l : List α} {i : Nat} {x : α} (h : l[i]? = some x) : l.drop i = x :: l.drop (i + 1) := by
  obtain ⟨hi, e⟩ := List.getElem?_eq_some_iff.mp h
  rw [List.drop_eq_getElem_cons hi, e]
abbrev sLElem : Stmt := s__law_element
def oV : Option Nat → V
  | some k => .int (k : Int)
  | none => .non
theorem expd_el {k c i : Nat} {r : List (Nd × Nat)} : (expd ((.el k, c) :: r))[i]? = if i < c then some k else (expd r)[i - c]? := by
  have e : expd ((.el k, c) :: r) = List.replicate c k ++ expd r := by
    rw [expd]
    congr 1
    rw [els]
    exact flat_one c k
  rw [e, List.getElem?_append, List.length_replicate]
  by_cases h : i < c
  · rw [if_pos h, if_pos h, List.getElem?_replicate, if_pos h]
  · rw [if_neg h, if_neg h]
theorem scLElem : FnScope ["given", "at", "one", "count"] ["given", "at"] (defScope sLElem) := ⟨rfl, rfl, rfl, by decide +kernel, rfl, by decide +kernel, by decide +kernel⟩
def spLElem (K : PySem.W.Frag) : Sp := fun vs H Q _ => ∃ (a : Addr) (ws : List V) (gs : List (Nd × Nat)) (i : Nat), vs = [.ref a, .int (i : Nat)] ∧ SqT K H a ws ∧ PrsV K H ws gs ∧ (∀ p ∈ gs, ∃ k, p.1 = Nd.el k) ∧ Q (oV (expd gs)[i]?) H
theorem ok_lelem {f : Addr} {fd : FuncData} {k : Nat} (F : Fun K "_law_element" "_law_element" sLElem f fd) : FnOk P w K mg base CX0 (k + 1) f fd ["given", "at"] (spLElem K) := by
  refine F.ok scLElem (fun vs H Q E h => ?_) (fun cdv A outer s H vs Q E hr h => ?_)
  · obtain ⟨a, ws, gs, i, rfl, _⟩ := h
    rfl
  · obtain ⟨a, ws, gs, i0, rfl, hT, kP, hE, q⟩ := h
    refine ⟨_, pss_cons (ps_for PassesOwn.never rfl (pi_tup (pv 0)) (pg_tup rfl (pgs_cons (pg_name (i := 2) scLElem.nd rfl (.inl rfl)) (pgs_cons (pg_name (i := 3) scLElem.nd rfl (.inl rfl)) pgs_nil)))
        (pss_cons (ps_if (pt_cmpR op_lt (pv 1) (pv 3) (nomark _)) (pss_one (ps_ret (pv 2))) pss_nil)
        (pss_one (ps_set (i := 1) scLElem.nd rfl (.inl rfl) (pe_op op_sub (pv 1) (pv 3))))))
      (pss_one (ps_ret pe_non)), ?_⟩
    refine ⟨.ref a, rfl, a, rfl, ⟨ws, hT⟩, ?_⟩
    refine for_tup (xs := ws) (fun i σ H' => ∃ (y2 y3 : Option V) (rem : Nat), σ = [some (.ref a), some (.int (rem : Nat)), y2, y3] ∧ H' = H ∧ (expd gs)[i0]? = (expd (gs.drop i))[rem]?)
      ⟨none, none, i0, rfl, rfl, rfl⟩ (fun i σ H' _ hp => ?_) (fun i u σ H1 hu hp => ?_) (fun σ H' hp => ?_)
    · obtain ⟨_, _, _, _, rfl, _⟩ := hp
      exact hT
    · obtain ⟨y2, y3, rem, rfl, rfl, e⟩ := hp
      obtain ⟨pr, ra, v, hpi, rfl, t1, t2⟩ := kP.get hu
      refine ⟨ra, _, rfl, t1, rfl, v, _, rfl, _, [], rfl, rfl, ?_⟩
      obtain ⟨ke, hk⟩ := hE pr (List.mem_of_getElem? hpi)
      rw [drop_at hpi] at e
      obtain ⟨n, c⟩ := pr
      cases hk
      rw [expd_el] at e
      have ev := t2.el
      subst ev
      refine ⟨_, rfl, _, rfl, _, _, rfl, rfl, _, rfl, ?_⟩
      by_cases z : rem < c
      · rw [if_pos z] at e
        rw [decide_eq_true (show ((rem : Nat) : Int) < ((c : Nat) : Int) by omega)]
        refine iteT ⟨_, rfl, ?_⟩
        rw [e] at q
        exact q
      · rw [if_neg z] at e
        rw [decide_eq_false (show ¬ ((rem : Nat) : Int) < ((c : Nat) : Int) by omega)]
        refine iteF ⟨_, rfl, _, rfl, _, _, rfl, rfl, some (.int (ke : Nat)), some (.int (c : Nat)), rem - c, ?_, rfl, e⟩
        have : ((rem : Nat) : Int) - ((c : Nat) : Int) = ((rem - c : Nat) : Int) := by omega
        rw [← this]
        rfl
    · obtain ⟨y2, y3, rem, rfl, rfl, e⟩ := hp
      have lw := kP.len
      rw [List.drop_of_length_le (by omega)] at e
      rw [e] at q
      exact q
end
end C25

set_option Elab.async false
set_option linter.all false
set_option maxRecDepth 100000
namespace C25
open PySem PySem.Spec PyProof.Rows L2 Loc RZ
/-! ### the law's right -/
section
variable {P : Program} {w : World} {K : PySem.W.Frag} {mg : Str → Option Value} {base : Heap}
theorem cut_nat (xs : List V) (i j : Nat) (h : i ≤ j) : cutV xs (some (i : Int)) (some (j : Int)) = (xs.drop i).take (j - i) := by
  unfold cutV
  rw [HT.sIx_nat, HT.sIx_nat]
  by_cases h1 : i ≤ xs.length
  · rw [Nat.min_eq_left h1]
    by_cases h2 : j ≤ xs.length
    · rw [Nat.min_eq_left h2]
    · rw [Nat.min_eq_right (by omega), List.take_of_length_le (by rw [List.length_drop]; omega), List.take_of_length_le (by rw [List.length_drop]; omega)]
  · have e1 : min i xs.length = xs.length := by omega
    rw [e1, List.drop_of_length_le (Nat.le_refl _), List.drop_of_length_le (by omega), List.take_nil, List.take_nil]
theorem cut_to (xs : List V) (j : Nat) : cutV xs none (some (j : Int)) = xs.take j := by
  have h := cut_nat xs 0 j (Nat.zero_le _)
  rw [List.drop_zero, Nat.sub_zero] at h
  rw [← h]
  unfold cutV
  rw [HT.sIx_nat, HT.sIx_nat]
  have z : HT.sIx xs.length 0 none = 0 := rfl
  rw [z, Nat.min_eq_left (Nat.zero_le _)]
theorem shaped_L (ms : List Nat) : SeqAt.shaped (.list (ms.map fun k : Nat => PyData.int (k : Int))) = true := by
  have key : ∀ ms : List Nat, PyData.canLayAll0 (ms.map fun k : Nat => PyData.int (k : Int)) = true ∧ PyData.depthAll (ms.map fun k : Nat => PyData.int (k : Int)) ≤ 1 := by
    intro ms
    induction ms with
    | nil => exact ⟨rfl, by simp [PyData.depthAll]⟩
    | cons m ms ih =>
      obtain ⟨i1, i2⟩ := ih
      rw [List.map_cons]
      refine ⟨?_, ?_⟩
      · simp only [PyData.canLayAll0, PyData.canLay0, Bool.and_eq_true]
        exact ⟨trivial, i1⟩
      · simp only [PyData.depthAll, PyData.depth]
        omega
  obtain ⟨k1, k2⟩ := key ms
  unfold SeqAt.shaped
  rw [Bool.and_eq_true]
  refine ⟨by simpa [PyData.canLay0] using k1, decide_eq_true ?_⟩
  simp only [PyData.depth]
  omega
theorem shaped_S {a b : Str} (ha : PyData.strOk a = true) (hb : PyData.strOk b = true) : SeqAt.shaped (.tuple [.str a, .str b]) = true := by
  unfold SeqAt.shaped
  rw [Bool.and_eq_true]
  refine ⟨by simp [PyData.canLay0, PyData.canLayAll0, ha, hb], decide_eq_true ?_⟩
  simp [PyData.depth, PyData.depthAll]
theorem strOk_of (s : String) : PyData.strOk (Str.ofString s) = true := by
  unfold PyData.strOk
  rw [Array.all_eq_true_iff_forall_mem]
  intro x hx
  unfold Str.ofString at hx
  rw [cpsOfBytes_string] at hx
  obtain ⟨c, _, rfl⟩ := List.mem_map.mp (List.mem_toArray.mp hx)
  have hc : c.toNat < 1114112 := by
    rcases c.valid with h | ⟨_, h⟩
    · exact Nat.lt_trans h (by decide)
    · exact h
  exact decide_eq_true hc
theorem smI {n : Int} (h : n.natAbs ≤ 10 ^ 60) : sm 0 0 0 (.int n) := by
  refine ⟨?_, by simp [PyData.depth], by simp [PyData.bulk]⟩
  rw [nc]
  exact decide_eq_true (Nat.le_trans h (by decide))
theorem expd_bd {gs : List (Nd × Nat)} (h : ∀ p ∈ gs, ∃ k, p.1 = Nd.el k ∧ k ≤ 10 ^ 9) : ∀ x ∈ expd gs, x ≤ 10 ^ 9 := by
  induction gs with
  | nil => exact fun x hx => nomatch hx
  | cons p r ih =>
    obtain ⟨k, hk, kl⟩ := h p List.mem_cons_self
    obtain ⟨n, c⟩ := p
    cases hk
    intro x hx
    rw [expd, List.mem_append] at hx
    rcases hx with hx | hx
    · rw [els, flat_one] at hx
      rw [List.eq_of_mem_replicate hx]
      exact kl
    · exact ih (fun q hq => h q (List.mem_cons_of_mem _ hq)) x hx
theorem expd_len {gs : List (Nd × Nat)} (h : ∀ p ∈ gs, ∃ k, p.1 = Nd.el k) : (expd gs).length = (gs.map (·.2)).sum := by
  induction gs with
  | nil => rfl
  | cons p r ih =>
    obtain ⟨k, hk⟩ := h p List.mem_cons_self
    obtain ⟨n, c⟩ := p
    cases hk
    rw [expd, List.length_append, rep_len, els, ih fun q hq => h q (List.mem_cons_of_mem _ hq), List.map_cons, List.sum_cons]
    simp
theorem bg_more {gs : List (Nd × Nat)} {i : Nat} {p : Nd × Nat} (h : gs[i]? = some p) : ((gs.take (i + 1)).map (·.2)).sum = ((gs.take i).map (·.2)).sum + p.2 := by
  rw [take_more h, List.map_append, List.sum_append]
  simp
theorem bg_le (gs : List (Nd × Nat)) (i : Nat) : ((gs.take i).map (·.2)).sum ≤ (gs.map (·.2)).sum := by
  have h : (gs.map (·.2)).sum = ((gs.take i).map (·.2)).sum + ((gs.drop i).map (·.2)).sum := by
    rw [← List.sum_append, ← List.map_append, List.take_append_drop]
  omega
theorem bg_big {gs : List (Nd × Nat)} (h : ∀ p ∈ gs, p.2 ≤ 10 ^ 18) : (gs.map (·.2)).sum ≤ gs.length * 10 ^ 18 := by
  induction gs with
  | nil => simp
  | cons p r ih =>
    have h1 := h p List.mem_cons_self
    have h2 := ih fun q hq => h q (List.mem_cons_of_mem _ hq)
    rw [List.map_cons, List.sum_cons, List.length_cons, Nat.succ_mul]
    omega
abbrev nmR : List Str := ["pot", "given", "whole", "begin", "spots", "one", "count", "at", "due", "low", "high", "told", "spot"]
theorem scRight : FnScope nmR ["pot"] (defScope sRight) := ⟨rfl, rfl, rfl, by decide +kernel, rfl, by decide +kernel, by decide +kernel⟩
abbrev tabR (Pt : Addr) : List (Addr × Str) := [(Pt, (envOfC "_law_right" (defScope sRight) 0 0 .none).qual ++ "<lambda>")]
def spRight (K : PySem.W.Frag) (Pt : Addr) : Sp := fun vs H Q _ => ∃ (p : Addr) (c : Nat), vs = [.ref p] ∧ Pot H p c ∧ c < 600000 ∧ LamX.Tabs (tabR Pt) H ∧ ∀ H', BT p H H' → LamX.Tabs (tabR Pt) H' → Pot H' p (c + 2000) → Q (.bl true) H'
set_option maxHeartbeats 0 in
theorem ok_right (X : Facts K mg) (F : ErrF K mg) {cc Pt : Addr} (code : X.vl_right.code = .ref cc) (TB : LamX.TabB base mg cc Pt) : FnG P w K mg base CX0 26 X.ul_right X.vl_right ["pot"] (spRight K Pt) := by
  have GW := ok_wide (P := P) (w := w) (base := base) X.fl_wide X.fl_take X.gl_take X.bl_take X.fl_of X.gl_of X.bl_of X.fl_sequence X.gl_sequence X.bl_sequence X.fl_runs X.gl_runs X.bl_runs X.len X.tuple
  have GTr : FnOk P w K mg base CX0 25 X.utree_of X.vtree_of ["runs"] (spTreeX K) := base_treeX X
  have GT : FnOk P w K mg base CX0 2 X.ul_take X.vl_take ["pot", "bound"] spTake := ok_take X.fl_take
  have GL : FnOk P w K mg base CX0 1 X.ul_element X.vl_element ["given", "at"] (spLElem K) := ok_lelem X.fl_element
  have RF : RestF K mg X.usize_of X.uis_run X.uis_block X.utake_first X.uopen_first X.vsize_of X.vis_run X.vis_block X.vtake_first X.vopen_first :=
    { S := X.fsize_of, R := X.fis_run, B := X.fis_block, T := X.ftake_first, O := X.fopen_first, gS := X.gsize_of, gR := X.gis_run, gB := X.gis_block, gT := X.gtake_first, gO := X.gopen_first, bS := X.bsize_of, bR := X.bis_run, bB := X.bis_block, bT := X.btake_first, bO := X.bopen_first,
      isinstance := X.isinstance, tuple := X.tuple, sum := X.sum, reversed := X.reversed, min := X.min }
  have GE : FnOk P w K mg base (L2.CX P w) 21 X.uelements_from X.velements_from ["tree", "start", "stop"] (spEls K F.cL) :=
    ok_els X.felements_from RF X.fhas_parts X.ghas_parts X.bhas_parts X.frest_from X.grest_from X.brest_from F.L X.MOST_ELEMENTS X.len
  have WF : WayF K mg X.uis_whole X.uhas_parts X.ulength_of X.upart_around X.usize_of X.uis_run X.uis_block X.vis_whole X.vhas_parts X.vlength_of X.vpart_around X.vsize_of X.vis_run X.vis_block :=
    { W := X.fis_whole, H := X.fhas_parts, L := X.flength_of, P := X.fpart_around, S := X.fsize_of, R := X.fis_run, B := X.fis_block, gW := X.gis_whole, gH := X.ghas_parts, gL := X.glength_of, gP := X.gpart_around, gS := X.gsize_of, gR := X.gis_run, gB := X.gis_block, bW := X.bis_whole, bH := X.bhas_parts, bL := X.blength_of, bP := X.bpart_around, bS := X.bsize_of, bR := X.bis_run, bB := X.bis_block,
      isinstance := X.isinstance, tuple := X.tuple, int := X.int, bool := X.bool, sum := X.sum }
  have GY : FnOk P w K mg base (L2.CX P w) 21 X.uway_to X.vway_to ["tree", "index"] (spWayX K F.cI) := ok_wayX X.fway_to WF F.I
  have GA : FnOk P w K mg base (L2.CX P w) 22 X.uelement_at X.velement_at ["tree", "index"] (spElemX K F.cI) := ok_elemX X.felement_at GY X.fway_to X.gway_to X.bway_to
  obtain ⟨roc, rod, rkV, rdoc, rpm, ran, rcd, rct, rosl, efd, rlk, rhc⟩ := X.fl_refusal.ex
  have rb := X.bl_refusal
  rw [efd] at rlk rb
  refine fun_okGC X.fl_right code scRight (fun vs H Q E h => ?_) (fun A outer s H vs Q E hg hr h => ?_)
  · obtain ⟨p, c, rfl, _⟩ := h
    rfl
  · obtain ⟨p, c, rfl, hp, hc, hTab, q⟩ := h
    have r1 := hr.mono (j := 1) (by omega)
    have r2 := hr.mono (j := 2) (by omega)
    have r4 := hr.mono (j := 4) (by omega)
    have r21 := hr.mono (j := 21) (by omega)
    have r22 := hr.mono (j := 22) (by omega)
    have r23 := hr.mono (j := 21 + 2) (by omega)
    have r24 := hr.mono (j := 22 + 2) (by omega)
    refine ⟨_, pss_cons (ps_set (i := 1) scRight.nd rfl (.inr rfl) (pe_call GW r4 (by rfl) X.gl_wide X.fl_wide.kp X.bl_wide .nil pass0 (pa_cons (pv 0) (pa_cons pe_int pa_nil))))
      (pss_cons (ps_asg (pe_tup (pa_cons (pe_call GTr hr (by rfl) X.gtree_of X.ftree_of.kp X.btree_of .nil pass0 (pa_cons (pv 1) pa_nil)) (pa_cons pe_int (pa_cons (pe_lst pa_nil) pa_nil))))
        (pg_tup rfl (pgs_cons (pg_name (i := 2) scRight.nd rfl (.inr rfl)) (pgs_cons (pg_name (i := 3) scRight.nd rfl (.inl rfl)) (pgs_cons (pg_name (i := 4) scRight.nd rfl (.inl rfl)) pgs_nil)))))
      (pss_cons (ps_for PassesOwn.never rfl (pi_tup (pv 1)) (pg_tup rfl (pgs_cons (pg_name (i := 5) scRight.nd rfl (.inl rfl)) (pgs_cons (pg_name (i := 6) scRight.nd rfl (.inl rfl)) pgs_nil)))
        (pss_cons (ps_set (i := 4) scRight.nd rfl (.inl rfl) (pe_op op_cat (pv 4) (pe_lst (pa_cons (pv 3) (pa_cons (pe_op op_sub (pe_op op_add (pv 3) (pv 6)) pe_int) (pa_cons (pe_op op_add (pv 3) (pe_call GT r2 (by rfl) X.gl_take X.fl_take.kp X.bl_take .nil pass0 (pa_cons (pv 0) (pa_cons (pv 6) pa_nil)))) pa_nil))))))
        (pss_one (ps_set (i := 3) scRight.nd rfl (.inl rfl) (pe_op op_add (pv 3) (pv 6))))))
      (pss_cons (ps_for PassesOwn.never rfl (pi_list (pe_slice sl_list (pv 4) po_none (po_some pe_int))) (pg_name (i := 7) scRight.nd rfl (.inr rfl))
        (pss_cons (ps_set (i := 8) scRight.nd rfl (.inl rfl) (pe_call GL r1 (by rfl) X.gl_element X.fl_element.kp X.bl_element .nil pass0 (pa_cons (pv 1) (pa_cons (pv 7) pa_nil))))
        (pss_cons (ps_if (PW.pt (pw_or (pt_cmpR op_ne (pe_callB (call_repQ hr hg) (by rfl) X.repr PyProof.Rows.boot_repr (pa_cons (pe_call (E := fun _ _ _ => False) GA r22 (by rfl) X.gelement_at X.felement_at.kp X.belement_at .nil (passes_call LamX.takes0 fun _ _ _ _ h => h) (pa_cons (pv 2) (pa_cons (pv 7) pa_nil))) pa_nil))
              (pe_callB (call_repQ hr hg) (by rfl) X.repr PyProof.Rows.boot_repr (pa_cons (pv 8) pa_nil)) (nomark _))
            (pw_or1 (pt_cmpR op_ne (pe_callB (call_repQ hr hg) (by rfl) X.repr PyProof.Rows.boot_repr (pa_cons (pe_ix ix_tup (pe_call (E := fun _ _ _ => False) GY r21 (by rfl) X.gway_to X.fway_to.kp X.bway_to .nil (passes_call LamX.takes0 fun _ _ _ _ h => h) (pa_cons (pv 2) (pa_cons (pv 7) pa_nil))) (pe_un un_neg pe_int) (fun _ _ => rfl)) pa_nil))
              (pe_callB (call_repQ hr hg) (by rfl) X.repr PyProof.Rows.boot_repr (pa_cons (pe_tup (pa_cons (pv 8) (pa_cons (pv 7) pa_nil))) pa_nil)) (nomark _))))) (pss_one (ps_ret pe_bl)) pss_nil)
        (pss_cons (ps_par (i := 9) (j := 10) (by rfl) scRight.nd rfl rfl (by decide) rfl rfl (pa_cons (pe_callB (L2.call_max2 rfl) (by rfl) X.max (by decide +kernel) (pa_cons pe_int (pa_cons (pe_op op_sub (pv 7) (pe_call GT r2 (by rfl) X.gl_take X.fl_take.kp X.bl_take .nil pass0 (pa_cons (pv 0) (pa_cons pe_int pa_nil)))) pa_nil)))
            (pa_cons (pe_op op_add (pv 7) (pe_call GT r2 (by rfl) X.gl_take X.fl_take.kp X.bl_take .nil pass0 (pa_cons (pv 0) (pa_cons pe_int pa_nil)))) pa_nil)) (by rfl))
        (pss_cons (ps_setLc (i := 11) (own := [("spot", 12)]) (g := gName 12) (tt := tYes) (te := tCall (spLElem K) [] E0 (tCons (tVar 1) (tCons (tVar 12) tNil))) rfl scRight.nd rfl rfl (sw_true rfl rfl rfl (by decide +kernel))
            (pi_range2W (by rfl) X.range (pa_cons (pv 9) (pa_cons (pv 10) pa_nil))) (blkOk_by (N := nmR) (sc := defScope sRight) (by decide +kernel))
            (fun _ _ _ _ _ => pg_name (i := 12) scRight.nd rfl (Or.inl rfl)) (fun _ _ _ _ _ => pts_nil) (fun _ _ _ _ _ => pe_call GL r1 (by rfl) X.gl_element X.fl_element.kp X.bl_element .nil pass0 (pa_cons (pv 1) (pa_cons (pv 12) pa_nil))))
        (pss_one (ps_if (pt_cmpR (op_neD hr.units) (pe_callTy call_list_of (by rfl) X.list PyProof.Rows.boot_list (pa_cons (pe_call (E := fun _ _ _ => False) GE r21 (by rfl) X.gelements_from X.felements_from.kp X.belements_from .nil (passes_call LamX.takes0 fun _ _ _ _ h => h) (pa_cons (pv 2) (pa_cons (pv 9) (pa_cons (pv 10) pa_nil)))) pa_nil))
            (pe_lc (own := [("one", 5)]) (g := gName 5) (te := tVar 5) rfl scRight.nd (pi_list (pv 11)) (blkOk_by (N := nmR) (sc := defScope sRight) (by decide +kernel))
              (fun _ _ _ _ _ => pg_name (i := 5) scRight.nd rfl (Or.inl rfl)) (fun _ _ _ _ _ => pts_one (pt_cmpR op_notN (pv 5) pe_non (nomark _))) (fun _ _ _ _ _ => pv 5)) (nomark _)) (pss_one (ps_ret pe_bl)) pss_nil)))))))
      (pss_cons (ps_for PassesOwn.never rfl (pi_tup (pe_tup (pa_cons (pv 3) (pa_cons (pe_op op_add (pv 3) pe_int) (pa_cons (pe_op op_add (pv 3) (pe_op op_pow pe_int pe_int)) pa_nil))))) (pg_name (i := 7) scRight.nd rfl (.inr rfl))
        (pss_cons (ps_if (pt_cmpR (op_neD hr.units) (LamX.pe_lamcall (T := tabR Pt) (TT := TRef F) (k := 22) (t := fun E => tCall (spElemX K F.cI) [] E (tCons (tVar 2) (tCons (tVar 7) tNil))) rfl X.gl_refusal X.fl_refusal.kp rlk rhc rb scRef rfl (.inl rfl)
            (ref_gives (X := (cxOf CX0 P w K mg base nmR "_law_right" (defScope sRight) X.ul_right (.ref cc) A outer s H E).nox) (k := 24) F hr hg X.isinstance X.repr) TB rfl (List.mem_cons_self) (fun x hx _ => by rw [List.mem_singleton.mp hx]; rfl) r24 (LamX.lamS_by rfl) rfl (fun _ _ _ _ _ => rfl)
            (fun A outer s H E f c' hr' => pe_call (E := E) GA hr' (by rfl) X.gelement_at X.felement_at.kp X.belement_at .nil (passes_call (takes_of rfl rfl rfl rfl) fun _ _ _ _ h => h) (pa_cons (pv 2) (pa_cons (pv 7) pa_nil))))
            (pe_tup (pa_cons pe_str (pa_cons (pe_callB (call_repQ hr hg) (by rfl) X.repr PyProof.Rows.boot_repr (pa_cons (pv 7) pa_nil)) pa_nil))) (nomark _)) (pss_one (ps_ret pe_bl)) pss_nil)
        (pss_one (ps_if (pt_cmpR (op_neD hr.units) (LamX.pe_lamcall (T := tabR Pt) (TT := TRef F) (k := 21) (t := fun E => tCall (spWayX K F.cI) [] E (tCons (tVar 2) (tCons (tVar 7) tNil))) rfl X.gl_refusal X.fl_refusal.kp rlk rhc rb scRef rfl (.inl rfl)
            (ref_gives (X := (cxOf CX0 P w K mg base nmR "_law_right" (defScope sRight) X.ul_right (.ref cc) A outer s H E).nox) (k := 24) F hr hg X.isinstance X.repr) TB rfl (List.mem_cons_self) (fun x hx _ => by rw [List.mem_singleton.mp hx]; rfl) r23 (LamX.lamS_by rfl) rfl (fun _ _ _ _ _ => rfl)
            (fun A outer s H E f c' hr' => pe_call (E := E) GY hr' (by rfl) X.gway_to X.fway_to.kp X.bway_to .nil (passes_call (takes_of rfl rfl rfl rfl) fun _ _ _ _ h => h) (pa_cons (pv 2) (pa_cons (pv 7) pa_nil))))
            (pe_tup (pa_cons pe_str (pa_cons (pe_callB (call_repQ hr hg) (by rfl) X.repr PyProof.Rows.boot_repr (pa_cons (pv 7) pa_nil)) pa_nil))) (nomark _)) (pss_one (ps_ret pe_bl)) pss_nil))))
      (pss_one (ps_ret pe_bl)))))), ?_⟩
    refine ⟨.ref p, rfl, p, 30, c, rfl, by decide, hp, by omega, fun H1 ga ws gs b1 na hga kP giv lg p1 => ?_⟩
    have hE : ∀ q ∈ gs, ∃ k, q.1 = Nd.el k := fun q hq => (giv.1 q hq).1.imp fun k h => h.1
    have t1 := tabs_but hTab b1 hp
    have lN := expd_len hE
    have bN := bg_big fun q hq => (giv.1 q hq).2.2
    have bN2 : (gs.map (·.2)).sum ≤ 30 * 10 ^ 18 := Nat.le_trans bN (Nat.mul_le_mul_right _ lg)
    refine ⟨.ref ga, rfl, ga, ws, gs, rfl, .inl (.inl hga), kP, giv, by omega, fun H2 tv s2 hT => ?_⟩
    have tE2 : TreeE K H2 tv (expd gs) := by
      rcases hT with ⟨gz, hv⟩ | ⟨_, n, l, hn, okn, l8, htn, pn, _⟩
      · exact .inl ⟨hv, by rw [gz]; rfl⟩
      · exact .inr ⟨n, l, hn, okn, l8, htn, by rw [els_prs n l okn, pn], by rw [pn]; omega⟩
    refine ⟨(show 0 ≤ sizeLine from by decide), fun L0 nL0 => ⟨(show 3 ≤ sizeLine from by decide), fun T nT => ?_⟩⟩
    refine ⟨T, _, rfl, .inl (.inl upd_same), rfl, _, _, rfl, _, _, rfl, _, [], rfl, rfl, ?_⟩
    have s3 : Same H1 (upd (upd H2 L0 (.lst [])) T (.tup [tv, .int 0, .ref L0])) := (s2.trans (sameN nL0)).trans (sameN nT)
    have hL0 : (upd (upd H2 L0 (.lst [])) T (.tup [tv, .int 0, .ref L0])) L0 = some (.lst []) := (sameN nT) _ _ upd_same
    have tE3 : TreeE K (upd (upd H2 L0 (.lst [])) T (.tup [tv, .int 0, .ref L0])) tv (expd gs) := tE2.up (.of ((sameN nL0).trans (sameN nT)))
    generalize upd (upd H2 L0 (.lst [])) T (.tup [tv, .int 0, .ref L0]) = H3 at s3 hL0 tE3 ⊢
    have kP3 := PrsV.up (.of s3) kP
    have hga3 := s3 _ _ hga
    have p3 : Pot H3 p (c + 1000) := by
      obtain ⟨o', e', r'⟩ := p1
      exact ⟨o', s3 _ _ e', r'⟩
    have nL0p : L0 ≠ p := fun z => by
      obtain ⟨o', e', r'⟩ := p3
      rw [← z, hL0] at e'
      cases e'
      obtain ⟨_, _, _, z, _⟩ := r'
      cases z
    have ngap : ga ≠ p := fun z => by rw [z] at na; obtain ⟨_, e', _⟩ := hp; rw [e'] at na; cases na
    refine ⟨.ref ga, rfl, ga, rfl, ⟨ws, .inl (.inl hga3)⟩, ?_⟩
    refine for_tup (xs := ws) (fun i σ H' => ∃ (L : Addr) (sp : List Nat) (y5 y6 : Option V), σ = [some (.ref p), some (.ref ga), some tv, some (.int (((gs.take i).map (·.2)).sum : Nat)), some (.ref L), y5, y6, none, none, none, none, none, none] ∧
        But p H3 H' ∧ Pot H' p (c + 1000 + i) ∧ L ≠ p ∧ H' L = some (.lst (sp.map fun k : Nat => V.int (k : Int))) ∧ sp.length = 3 * i ∧ ∀ z ∈ sp, z < (expd gs).length)
      ⟨L0, [], none, none, rfl, .refl p H3, p3, nL0p, hL0, rfl, fun z hz => nomatch hz⟩ (fun i σ H' _ hp' => ?_) (fun i u σ H4 hu hp' => ?_) (fun σ H4 hp' => ?_)
    · obtain ⟨_, _, _, _, _, b4, _⟩ := hp'
      exact .inl (.inl (b4.at ngap hga3))
    · obtain ⟨L, sp, y5, y6, rfl, b4, p4, nLp, hL, lsp, hsp⟩ := hp'
      obtain ⟨pr, ra, v, hpi, rfl, ta, tb⟩ := (PrsV.up (b4.tupsP p3) kP3).get hu
      have hil := (List.getElem?_eq_some_iff.mp hpi).1
      refine ⟨ra, _, rfl, ta, rfl, v, _, rfl, _, [], rfl, rfl, ?_⟩
      have em := bg_more hpi
      have eb := bg_le gs (i + 1)
      obtain ⟨pn, pc⟩ := pr
      have gp := giv.1 _ (List.mem_of_getElem? hpi)
      have c1 : 1 ≤ pc := gp.2.1
      have c18 : pc ≤ 10 ^ 18 := gp.2.2
      generalize ((gs.take i).map (·.2)).sum = b at em
      refine ⟨_, rfl, _, rfl, _, rfl, _, rfl, _, _, rfl, rfl, _, 1, rfl, rfl, _, rfl, .ref p, rfl, _, rfl, p, (pc : Nat), _, rfl, p4, by omega, by omega, ?_, fun d H5 d0 d1 b5 p5 => ?_⟩
      · exact Int.lt_of_le_of_lt (show ((pc : Nat) : Int) ≤ ((10 ^ 18 : Nat) : Int) by exact Int.ofNat_le.mpr c18) (by decide +kernel)
      have hL5 := b5.at nLp hL
      refine ⟨_, _, rfl, rfl, (show 3 ≤ sizeLine from by decide), fun l nl => ⟨L, l, _, _, rfl, rfl, (sameN nl) _ _ hL5, upd_same, ?_, fun m nm => ?_⟩⟩
      · rw [List.length_map, lsp]
        exact Nat.le_trans (show 3 * i + 3 ≤ 200 by omega) (by decide)
      refine nx3 ?_
      refine ⟨_, rfl, _, rfl, _, _, rfl, rfl, ?_⟩
      have s5 := (sameN (o := .lst [V.int b, V.int (((b : Nat) : Int) + ((pc : Nat) : Int) - 1), V.int (((b : Nat) : Int) + d)]) nl).trans (sameN (o := .lst (sp.map (fun k : Nat => V.int (k : Int)) ++ [V.int b, V.int (((b : Nat) : Int) + ((pc : Nat) : Int) - 1), V.int (((b : Nat) : Int) + d)])) nm)
      have ev : sp.map (fun k : Nat => V.int (k : Int)) ++ [V.int b, V.int (((b : Nat) : Int) + ((pc : Nat) : Int) - 1), V.int (((b : Nat) : Int) + d)] = (sp ++ [b, b + pc - 1, b + d.toNat]).map (fun k : Nat => V.int (k : Int)) := by
        rw [List.map_append]
        congr 1
        show _ = [V.int ((b : Nat) : Int), V.int ((b + pc - 1 : Nat) : Int), V.int ((b + d.toNat : Nat) : Int)]
        rw [show ((b + pc - 1 : Nat) : Int) = ((b : Nat) : Int) + ((pc : Nat) : Int) - 1 by omega, show ((b + d.toNat : Nat) : Int) = ((b : Nat) : Int) + d by omega]
      refine ⟨m, sp ++ [b, b + pc - 1, b + d.toNat], some v, some (.int (pc : Nat)), ?_, (b4.trans b5).trans (Same.but s5), ?_, ?_, ?_, ?_, fun z hz => ?_⟩
      · rw [em]
        rfl
      · obtain ⟨o', e', r'⟩ := p5
        exact ⟨o', s5 _ _ e', r'⟩
      · exact (p5.new nl).ne nm
      · rw [← ev]
        exact upd_same
      · rw [List.length_append, lsp]
        show 3 * i + 3 = _
        omega
      · rw [lN]
        rcases List.mem_append.mp hz with hz | hz
        · rw [← lN]
          exact hsp z hz
        · simp only [List.mem_cons, List.not_mem_nil, or_false] at hz
          rw [em] at eb
          have d1' : d < ((pc : Nat) : Int) := d1
          have eb' : b + pc ≤ (gs.map (·.2)).sum := eb
          rcases hz with rfl | rfl | rfl <;> omega
    obtain ⟨L, sp, y5, y6, rfl, b4, p4, nLp, hL, lsp, hsp⟩ := hp'
    have lws := PrsV.len kP3
    rw [List.take_of_length_le (by omega), ← lN]
    rw [lws] at p4 lsp
    have kP4 := PrsV.up (b4.tupsP p3) kP3
    have hga4 := b4.at ngap hga3
    have tE4 := tE3.up (b4.tupsP p3)
    have b04 : But p H H4 := (b1.trans (Same.but s3)).trans b4
    have t4 := tabs_but (tabs_same t1 s3) b4 p3
    clear tE3 kP3 hga3 tE2 hT
    -- the spots
    refine ⟨.ref L, rfl, _, rfl, L, _, rfl, .inl (.inl hL), fun l2 nl2 => ?_⟩
    rw [show (60 : Int) = ((60 : Nat) : Int) from rfl, cut_to, ← List.map_take]
    have s45 := sameN (o := .lst ((sp.take 60).map fun k : Nat => V.int (k : Int))) nl2
    have hl2 : (upd H4 l2 (.lst ((sp.take 60).map fun k : Nat => V.int (k : Int)))) l2 = some (.lst ((sp.take 60).map fun k : Nat => V.int (k : Int))) := upd_same
    have nl2p := p4.ne nl2
    generalize upd H4 l2 (.lst ((sp.take 60).map fun k : Nat => V.int (k : Int))) = H5 at s45 hl2 ⊢
    have p5 : Pot H5 p (c + 1000 + gs.length) := by
      obtain ⟨o', e', r'⟩ := p4
      exact ⟨o', s45 _ _ e', r'⟩
    have b45 : But p H4 H5 := Same.but s45
    have lsp2 : ((sp.take 60).map fun k : Nat => V.int (k : Int)).length ≤ 60 := by
      rw [List.length_map, List.length_take]
      omega
    refine ⟨l2, rfl, ⟨_, .inl (.inl hl2)⟩, ?_⟩
    refine for_list (xs := (sp.take 60).map fun k : Nat => V.int (k : Int)) (fun i σ H' => ∃ y5 y6 y7 y8 y9 y10 y11 y12, σ = [some (.ref p), some (.ref ga), some tv, some (.int ((expd gs).length : Nat)), some (.ref L), y5, y6, y7, y8, y9, y10, y11, y12] ∧
        But p H5 H' ∧ Pot H' p (c + 1000 + gs.length + 2 * i))
      ⟨_, _, _, _, _, _, _, _, rfl, .refl p H5, p5⟩ (fun i σ H' _ hp' => ?_) (fun i u σ H6 hu hp' => ?_) (fun σ H6 hp' => ?_)
    · obtain ⟨_, _, _, _, _, _, _, _, _, b6, _⟩ := hp'
      exact .inl (.inl (b6.at nl2p hl2))
    · obtain ⟨y5, y6, y7, y8, y9, y10, y11, y12, rfl, b6, p6⟩ := hp'
      have hi60 : i < 60 := Nat.lt_of_lt_of_le (List.getElem?_eq_some_iff.mp hu).1 lsp2
      obtain ⟨z, hz, rfl⟩ := List.mem_map.mp (List.mem_of_getElem? hu)
      have hzN := hsp z (List.mem_of_mem_take hz)
      have b46 := b45.trans b6
      have kP6 := PrsV.up (b46.tupsP p4) kP4
      have hga6 := b46.at ngap hga4
      have tE6 := tE4.up (b46.tupsP p4)
      refine ⟨_, rfl, _, rfl, ga, ws, gs, z, rfl, .inl (.inl hga6), kP6, hE, ?_⟩
      obtain ⟨kz, hkz⟩ : ∃ k, (expd gs)[z]? = some k := ⟨_, List.getElem?_eq_getElem hzN⟩
      rw [hkz]
      refine nx3 ?_
      have kz9 := expd_bd (fun q hq => (giv.1 q hq).1) kz (List.mem_of_getElem? hkz)
      have kz60 : (kz : Int).natAbs ≤ 10 ^ 60 := by
        rw [Int.natAbs_natCast]
        exact Nat.le_trans kz9 (by decide)
      have z60 : (z : Int).natAbs ≤ 10 ^ 60 := by
        rw [Int.natAbs_natCast]
        exact Nat.le_trans (Nat.le_of_lt (by rw [lN] at hzN; exact Nat.lt_of_lt_of_le hzN bN2)) (by decide)
      refine seq_if (fun b H' => b = false ∧ Same H6 H') (fun R hR => ?_) (fun H7 h7 => ?_) (fun H7 h7 => ?_)
      · refine ⟨tv, rfl, _, rfl, tv, .int (z : Nat), .int (z : Nat), expd gs, rfl, .int _, tE6, fun idx e hi H7 k s7 hk => ?_, fun h => absurd hzN (h z rfl)⟩
        have ei : idx = z := by
          have : (z : Int) = (idx : Int) := by injection e
          omega
        subst ei
        have ek : k = kz := by
          rw [hk] at hkz
          injection hkz
        subst ek
        dsimp only [tNil]
        refine (rep_any (Same.refl H7) (.int _) (smI kz60) (by decide) (by decide) (by decide) ?_ : rRepQ K [.int (k : Nat)] _ _)
        show tCB _ (tCons (tVar 8) tNil) _ _ _
        refine cb1_var (.int (k : Nat)) rfl (rep_any (Same.refl H7) (.int _) (smI kz60) (by decide) (by decide) (by decide) ?_)
        refine ⟨rfl, false, by simp, iteF ?_⟩
        refine ⟨tv, rfl, _, rfl, tv, .int (idx : Nat), .int (idx : Nat), expd gs, rfl, .int _, tE6.up (.of s7), fun idx2 e2 hi2 H8 t us a k2 s8 h1 h2 h3 => ?_, fun h => absurd hzN (h idx rfl)⟩
        have ei2 : idx2 = idx := by
          have : (idx : Int) = (idx2 : Int) := by injection e2
          omega
        subst ei2
        have ek2 : k2 = k := by
          rw [hk] at h3
          injection h3 with h3
          exact h3.symm
        subst ek2
        have key : ∀ d ∈ [PyData.int (k2 : Nat), PyData.int (idx2 : Nat)], sm 0 0 0 d := fun d hd => by
          simp only [List.mem_cons, List.not_mem_nil, or_false] at hd
          rcases hd with rfl | rfl
          · exact smI kz60
          · exact smI z60
        have sm2 : sm 0 1 2300 (.tuple [PyData.int (k2 : Nat), PyData.int (idx2 : Nat)]) := (sm_tup key 2300 (show 2 ≤ 2300 by decide)).1.up (by decide) (by decide) (by decide)
        refine ⟨1, rfl, t, _, -1, .ref a, rfl, rfl, h1, atI_last _ _, ?_⟩
        dsimp only [tNil]
        refine (rep_any (Same.refl H8) (.tup h2 (.cons (.int _) (.cons (.int _) .nil))) sm2 (by decide) (by decide) (by decide) ?_ : rRepQ K [.ref a] _ _)
        refine ⟨_, rfl, _, rfl, (show 2 ≤ sizeLine from by decide), fun t2 nt2 => ?_⟩
        dsimp only [tNil]
        refine (rep_any (Same.refl _) (.tup (.inl (.inl upd_same)) (.cons (.int _) (.cons (.int _) .nil))) sm2 (by decide) (by decide) (by decide) ?_ : rRepQ K [.ref t2] _ _)
        exact ⟨rfl, false, by simp, hR _ _ ⟨rfl, s7.trans (s8.trans (sameN nt2))⟩⟩
      · exact nomatch h7.1
      obtain ⟨_, s67⟩ := h7
      have p7 : Pot H7 p (c + 1000 + gs.length + 2 * i) := by
        obtain ⟨o', e', r'⟩ := p6
        exact ⟨o', s67 _ _ e', r'⟩
      have b57 := b6.trans (Same.but s67)
      refine ⟨_, rfl, .ref p, rfl, p, 4, _, rfl, p7, by omega, by decide, by decide +kernel, fun d H8 d0 d1 b8 p8 => ⟨_, _, rfl, rfl, _, _, rfl, _, rfl, .ref p, rfl, p, 4, _, rfl, p8, by omega, by decide, by decide +kernel, fun d2 H9 e0 e1 b9 p9 => ⟨_, _, rfl, rfl, _, _, rfl, ?_⟩⟩⟩
      have el : (if (z : Int) - d > 0 then (z : Int) - d else 0) = ((z - d.toNat : Nat) : Int) := by
        split <;> omega
      have eh : (z : Int) + d2 = ((z + d2.toNat : Nat) : Int) := by omega
      simp only []
      rw [el, eh]
      have d1' : d < 4 := d1
      have e1' : d2 < 4 := e1
      have lh : z - d.toNat ≤ z + d2.toNat := by omega
      have l6 : z + d2.toNat - (z - d.toNat) ≤ 6 := by omega
      generalize z - d.toNat = lw at lh l6 ⊢
      generalize z + d2.toNat = hw at lh l6 ⊢
      have b59 := (b57.trans b8).trans b9
      have kP9 := PrsV.up ((b45.trans b59).tupsP p4) kP4
      have hga9 := (b45.trans b59).at ngap hga4
      have tE9 := tE4.up ((b45.trans b59).tupsP p4)
      refine ⟨_, rfl, _, rfl, lw, hw, rfl, fun D nD => ?_⟩
      have nDp := p9.ne nD
      have ehl : ((hw : Int) - (lw : Int)).toNat = hw - lw := by omega
      refine lc_range (fun i H' => H' D = some (.lst ((List.range i).map fun j => oV (expd gs)[lw + j]?)) ∧ Same H9 H') ⟨upd_same, sameN nD⟩ (fun j H' hj hq => ?_) (fun H10 hq => ?_)
      · obtain ⟨gD, s10⟩ := hq
        rw [ehl] at hj
        refine ⟨rfl, _, rfl, _, rfl, ga, ws, gs, lw + j, ?_, .inl (.inl (s10 _ _ hga9)), PrsV.up (.of s10) kP9, hE, ?_⟩
        · show [V.ref ga, V.int ((lw : Int) + (j : Int))] = _
          rw [← Int.natCast_add]
        refine ⟨_, gD, ?_, ?_, sameW s10 nD⟩
        · rw [List.length_map, List.length_range]
          exact line5 (by omega)
        · rw [upd_same, List.range_succ, List.map_append]
          rfl
      obtain ⟨gD, s10⟩ := hq
      rw [ehl] at gD
      have tE10 := tE9.up (.of s10)
      have p10 : Pot H10 p (c + 1000 + gs.length + 2 * (i + 1)) := by
        obtain ⟨o', e', r'⟩ := p9
        exact ⟨o', s10 _ _ e', r'⟩
      have b510 := b59.trans (Same.but s10)
      refine nx3 ?_
      refine ifs_any (fun b H' => b = false ∧ Same H10 H') (fun b H11 hb => ?_) (fun R hR => ?_)
      · obtain ⟨rfl, s11⟩ := hb
        refine iteF ⟨_, _, _, _, _, _, _, _, rfl, b510.trans (Same.but s11), ?_⟩
        obtain ⟨o', e', r'⟩ := p10
        exact ⟨o', s11 _ _ e', r'⟩
      refine ⟨tv, rfl, _, rfl, _, rfl, tv, expd gs, lw, hw, rfl, tE10, lh, fun hle H11 t s11 ht => ?_, fun hgt => by omega⟩
      refine ⟨t, _, rfl, .inr ht, fun l12 n12 => ?_⟩
      have s12 := s11.trans (sameN (o := .lst ((((expd gs).drop lw).take (hw - lw)).map fun k : Nat => V.int (k : Int))) n12)
      have h12 : (upd H11 l12 (.lst ((((expd gs).drop lw).take (hw - lw)).map fun k : Nat => V.int (k : Int)))) l12 = _ := upd_same
      generalize upd H11 l12 (.lst ((((expd gs).drop lw).take (hw - lw)).map fun k : Nat => V.int (k : Int))) = H12 at s12 h12 ⊢
      refine ⟨.ref D, rfl, D, rfl, ⟨_, .inl (.inl (s12 _ _ gD))⟩, fun D2 nD2 => ?_⟩
      refine lc_list (xs := (List.range (hw - lw)).map fun j => oV (expd gs)[lw + j]?) (fun i H' => H' D2 = some (.lst ((((expd gs).drop lw).take i).map fun k : Nat => V.int (k : Int))) ∧ Same H12 H') ⟨upd_same, sameN nD2⟩ (fun j H' _ hq => ?_) (fun j x H' hx hq => ?_) (fun H13 hq => ?_)
      · exact (hq.2).seq (.inl (.inl (s12 _ _ gD)))
      · obtain ⟨g2, s13⟩ := hq
        have hj : j < hw - lw := by
          have := (List.getElem?_eq_some_iff.mp hx).1
          simpa using this
        have ex : x = oV (expd gs)[lw + j]? := by
          rw [List.getElem?_map, List.getElem?_range hj] at hx
          injection hx with hx
          exact hx.symm
        subst ex
        have edr : ((expd gs).drop lw)[j]? = (expd gs)[lw + j]? := List.getElem?_drop
        refine ⟨rfl, _, rfl, rfl, _, rfl, ?_⟩
        cases eo : (expd gs)[lw + j]? with
        | some k =>
          rw [eo] at edr
          refine iteT ⟨_, rfl, _, g2, ?_, ?_, sameW s13 nD2⟩
          · rw [List.length_map]
            exact line5 (by rw [List.length_take]; omega)
          · rw [upd_same, take_more edr, List.map_append]
            rfl
        | none =>
          rw [eo] at edr
          refine iteF ⟨?_, s13⟩
          have l1 := List.getElem?_eq_none_iff.mp edr
          rw [List.take_of_length_le (by omega)] at g2 ⊢
          exact g2
      · obtain ⟨g2, s13⟩ := hq
        rw [List.length_map, List.length_range] at g2
        have sh : SeqAt.shaped (.list ((((expd gs).drop lw).take (hw - lw)).map fun k : Nat => PyData.int (k : Int))) = true := by
          exact shaped_L _
        have kd : ∀ (a : Addr), SqL K H13 a ((((expd gs).drop lw).take (hw - lw)).map fun k : Nat => V.int (k : Int)) → Dp K H13 (.ref a) (.list ((((expd gs).drop lw).take (hw - lw)).map fun k : Nat => PyData.int (k : Int))) := fun a ha => by
          have := DpAll.ints (K := K) (H := H13) ((((expd gs).drop lw).take (hw - lw)).map fun k : Nat => (k : Int))
          rw [List.map_map, List.map_map] at this
          exact .lst ha this
        refine ⟨_, _, kd l12 (.inl (.inl (s13 _ _ h12))), kd D2 (.inl (.inl g2)), sh, sh, _, rfl, ?_⟩
        have := sh
        unfold SeqAt.shaped at this
        rw [Bool.and_eq_true] at this
        rw [SeqAt.eqv_refl _ this.1]
        exact hR _ _ ⟨rfl, s12.trans s13⟩
    obtain ⟨y5, y6, y7, y8, y9, y10, y11, y12, rfl, b56, p6⟩ := hp'
    have b46 := b45.trans b56
    have tE6 := tE4.up (b46.tupsP p4)
    have t6 := tabs_but t4 b46 p4
    have b06 : BT p H H6 := .of (b04.trans b46)
    refine nx_of ?_
    have nN : (expd gs).length ≤ 30 * 10 ^ 18 := by rw [lN]; exact bN2
    generalize hNN : (expd gs).length = N at nN
    refine ⟨_, rfl, _, rfl, _, _, rfl, rfl, _, rfl, 10, 30, rfl, rfl, ⟨by decide, by decide, by decide⟩, _, _, rfl, rfl, (show 3 ≤ sizeLine from by decide), fun t3 nt3 => ?_⟩
    have s67 := sameN (o := .tup [V.int (N : Nat), V.int ((N : Nat) + 1), V.int ((N : Nat) + 10 ^ (30 : Int).toNat)]) nt3
    have ht3 : (upd H6 t3 (.tup [V.int (N : Nat), V.int ((N : Nat) + 1), V.int ((N : Nat) + 10 ^ (30 : Int).toNat)])) t3 = _ := upd_same
    have nt3p := p6.ne nt3
    generalize upd H6 t3 (.tup [V.int (N : Nat), V.int ((N : Nat) + 1), V.int ((N : Nat) + 10 ^ (30 : Int).toNat)]) = H7 at s67 ht3 ⊢
    refine ⟨t3, rfl, ⟨_, .inl (.inl ht3)⟩, ?_⟩
    have pz : Pot H7 p (c + 1180) := by
      obtain ⟨o', e', r'⟩ := p6
      exact ⟨o', s67 _ _ e', r'.le (by omega)⟩
    refine for_tup (xs := [V.int (N : Nat), V.int ((N : Nat) + 1), V.int ((N : Nat) + 10 ^ (30 : Int).toNat)]) (fun i σ H' => ∃ y7, σ = [some (.ref p), some (.ref ga), some tv, some (.int (N : Nat)), some (.ref L), y5, y6, y7, y8, y9, y10, y11, y12] ∧
        BT p H7 H' ∧ LamX.Tabs (tabR Pt) H' ∧ Pot H' p (c + 1180) ∧ TreeE K H' tv (expd gs))
      ⟨_, rfl, .of (.refl p H7), tabs_same t6 s67, pz, tE6.up (.of s67)⟩ (fun i σ H' _ hp' => ?_) (fun i u σ H8 hu hp' => ?_) (fun σ H8 hp' => ?_)
    · obtain ⟨_, _, b, _⟩ := hp'
      exact .inl (.inl (b _ _ nt3p ht3 (fun _ z => by cases z)))
    rotate_left
    · obtain ⟨_, rfl, b, t, pp, _⟩ := hp'
      exact q H8 ((b06.trans (.of (Same.but s67))).trans b) t (pp.le (by omega))
    obtain ⟨y7', rfl, b8, t8, p8, tE8⟩ := hp'
    obtain ⟨n, rfl, hn, n60⟩ : ∃ n : Nat, u = .int n ∧ N ≤ n ∧ (n : Int).natAbs ≤ 10 ^ 60 := by
      have big : 30 * 10 ^ 18 + 10 ^ 30 ≤ 10 ^ 60 := by decide
      have := List.mem_of_getElem? hu
      simp only [List.mem_cons, List.not_mem_nil, or_false] at this
      rcases this with rfl | rfl | rfl
      · exact ⟨N, rfl, by omega, by rw [Int.natAbs_natCast]; omega⟩
      · exact ⟨N + 1, rfl, by omega, by rw [Int.natAbs_natCast]; omega⟩
      · exact ⟨N + 10 ^ 30, int_congr (by rw [Int.natCast_add]; rfl), by omega, by rw [Int.natAbs_natCast]; omega⟩
    refine seq_if (fun b H' => b = false ∧ BT p H8 H' ∧ LamX.Tabs (tabR Pt) H' ∧ Pot H' p (c + 1180) ∧ TreeE K H' tv (expd gs)) (fun R hR => ?_) (fun H9 h9 => ?_) (fun H9 h9 => ?_)
    · refine ⟨t8, fun H8 e8 t9 R2 hR2 => ?_⟩
      refine ⟨tv, rfl, _, rfl, tv, .int (n : Nat), .int (n : Nat), expd gs, rfl, .int _, tE8.up (ext_tups e8), fun idx e hi => ?_, fun _ H9 d9 s9 nd9 => ?_⟩
      · have : (n : Int) = (idx : Int) := by injection e
        omega
      refine ⟨d9, .int (n : Nat), .int (n : Nat), rfl, .int _, (smI n60).up (by decide) (by decide) (by decide), .inr ⟨rfl, upd_same, fun H10 t s10 ht => ?_⟩⟩
      show tCB _ (tCons (tVar 7) tNil) _ _ _
      refine cb1_var (.int (n : Nat)) rfl (rep_any (Same.refl H10) (.int (n : Int)) (smI n60) (by decide) (by decide) (by decide) ?_)
      refine ⟨(show 2 ≤ sizeLine from by decide), fun t2 nt2 => ?_⟩
      have s810 := (sameN (o := .xd [("index", .int (n : Nat))]) nd9).trans (s10.trans (sameN (o := .tup [.str "index", .str (PyData.int (n : Int)).shown]) nt2))
      have sX := s9.trans s810
      have okS := shaped_S (a := "index") (b := (PyData.int (n : Int)).shown) (by decide +kernel) (by rw [PyData.shown_int]; exact strOk_of _)
      have := okS
      unfold SeqAt.shaped at this
      rw [Bool.and_eq_true] at this
      refine ⟨_, _, .tup (.inl (.inl (sameN nt2 _ _ ht))) (.cons (.str _) (.cons (.str _) .nil)), .tup (.inl (.inl upd_same)) (.cons (.str _) (.cons (.str _) .nil)), okS, okS, false, ?_, hR _ _ ⟨rfl, ?_, tabs_same t9 sX, ?_, ?_⟩⟩
      · rw [SeqAt.eqv_refl _ this.1]
        rfl
      · exact (BT.ext e8).trans (.of (Same.but sX))
      · obtain ⟨o', e', r'⟩ := ext_pot e8 p8
        exact ⟨o', sX _ _ e', r'⟩
      · exact (tE8.up (ext_tups e8)).up (.of sX)
    · exact nomatch h9.1
    obtain ⟨_, bA, tA, pA, tEA⟩ := h9
    have b8A := b8.trans bA
    refine ifs_any (fun b H' => b = false ∧ BT p H9 H' ∧ LamX.Tabs (tabR Pt) H' ∧ Pot H' p (c + 1180) ∧ TreeE K H' tv (expd gs)) (fun b HC hb => ?_) (fun R hR => ?_)
    · obtain ⟨rfl, bC, tC, pC, eC⟩ := hb
      exact iteF ⟨_, rfl, b8A.trans bC, tC, pC, eC⟩
    · refine ⟨tA, fun HB e8 t9 R2 hR2 => ?_⟩
      refine ⟨tv, rfl, _, rfl, tv, .int (n : Nat), .int (n : Nat), expd gs, rfl, .int _, tEA.up (ext_tups e8), fun idx e hi => ?_, fun _ H9 d9 s9 nd9 => ?_⟩
      · have : (n : Int) = (idx : Int) := by injection e
        omega
      refine ⟨d9, .int (n : Nat), .int (n : Nat), rfl, .int _, (smI n60).up (by decide) (by decide) (by decide), .inr ⟨rfl, upd_same, fun H10 t s10 ht => ?_⟩⟩
      show tCB _ (tCons (tVar 7) tNil) _ _ _
      refine cb1_var (.int (n : Nat)) rfl (rep_any (Same.refl H10) (.int (n : Int)) (smI n60) (by decide) (by decide) (by decide) ?_)
      refine ⟨(show 2 ≤ sizeLine from by decide), fun t2 nt2 => ?_⟩
      have s810 := (sameN (o := .xd [("index", .int (n : Nat))]) nd9).trans (s10.trans (sameN (o := .tup [.str "index", .str (PyData.int (n : Int)).shown]) nt2))
      have sX := s9.trans s810
      have okS := shaped_S (a := "index") (b := (PyData.int (n : Int)).shown) (by decide +kernel) (by rw [PyData.shown_int]; exact strOk_of _)
      have := okS
      unfold SeqAt.shaped at this
      rw [Bool.and_eq_true] at this
      refine ⟨_, _, .tup (.inl (.inl (sameN nt2 _ _ ht))) (.cons (.str _) (.cons (.str _) .nil)), .tup (.inl (.inl upd_same)) (.cons (.str _) (.cons (.str _) .nil)), okS, okS, false, ?_, hR _ _ ⟨rfl, ?_, tabs_same t9 sX, ?_, ?_⟩⟩
      · rw [SeqAt.eqv_refl _ this.1]
        rfl
      · exact (BT.ext e8).trans (.of (Same.but sX))
      · obtain ⟨o', e', r'⟩ := ext_pot e8 pA
        exact ⟨o', sX _ _ e', r'⟩
      · exact (tEA.up (ext_tups e8)).up (.of sX)
end
end C25

set_option Elab.async false
set_option linter.all false
set_option maxRecDepth 100000
namespace C25
open PySem PySem.Spec PyProof.Rows L2 Loc RZ
section
variable {P : Program} {w : World} {K : PySem.W.Frag} {mg : Str → Option Value} {base : Heap}
theorem ext_sql {H H' : Hp} {a : Addr} {xs : List V} (e : LamX.ExtN H H') (h : SqL K H a xs) : SqL K H' a xs := by
  rcases h with (h | ⟨o, h⟩) | h
  · exact .inl (.inl (e _ _ h (fun _ z => by cases z)))
  · exact .inl (.inr ⟨o, e _ _ h (fun _ z => by cases z)⟩)
  · exact .inr h
abbrev nmLaw : List Str := ["script", "k", "pot", "turn"]
theorem scLaw : FnScope nmLaw ["script"] (defScope sLaw) := ⟨rfl, rfl, rfl, by decide +kernel, rfl, by decide +kernel, by decide +kernel⟩
def spLaw (K : PySem.W.Frag) (cs : List (Addr × Addr)) : Sp := fun vs H Q _ => ∃ (a : Addr) (ns : List Int), vs = [.ref a] ∧ SqL K H a (ns.map V.int) ∧ ns.length ≤ 63 ∧ (∀ p ∈ cs, H p.2 = some (.tbl #[])) ∧ ∀ H', Q (.bl true) H'
set_option maxHeartbeats 0 in
theorem ok_law {f : Addr} {fd : FuncData} (F : Fun K "law" "law" sLaw f fd) (X : Facts K mg) (EF : ErrF K mg) {cc Pt : Addr} (code : X.vl_right.code = .ref cc) (TB : LamX.TabB base mg cc Pt) : FnG P w K mg base CX0 27 f fd ["script"] (spLaw K [(cc, Pt)]) := by
  have GP : FnOk P w K mg base CX0 1 X.ul_pot X.vl_pot ["script", "k"] (spPot K) := ok_pot X.fl_pot X.len X.abs X.int
  have GR : FnG P w K mg base CX0 26 X.ul_right X.vl_right ["pot"] (spRight K Pt) := ok_right X EF code TB
  refine fun_okG F scLaw (fun vs H Q E h => ?_) (fun cdv A outer s H vs Q E hg hr h => ?_)
  · obtain ⟨a, ns, rfl, _⟩ := h
    rfl
  · obtain ⟨a, ns, rfl, hS, hlen, hcs, q⟩ := h
    have r1 := hr.mono (j := 1) (by omega)
    refine ⟨_, pss_cons (ps_for PassesOwn.never rfl (pi_range1 (by rfl) X.range (pa_cons (pe_callB (L2.call_max2 rfl) (by rfl) X.max (by decide +kernel) (pa_cons pe_int (pa_cons (pe_callB (L2.call_min2 rfl) (by rfl) X.min (by decide +kernel)
            (pa_cons pe_int (pa_cons (pe_callB call_len_seq (by rfl) X.len PySem.boot_len (pa_cons (pv 0) pa_nil)) pa_nil))) pa_nil))) pa_nil)) (pg_name (i := 1) scLaw.nd rfl (.inl rfl))
        (pss_cons (ps_set (i := 2) scLaw.nd rfl (.inr rfl) (pe_call GP r1 (by rfl) X.gl_pot X.fl_pot.kp X.bl_pot .nil pass0 (pa_cons (pv 0) (pa_cons (pv 1) pa_nil))))
        (pss_one (ps_if (pt_not (pt_val (pe_callB (cr_all rfl) (by rfl) X.all PyProof.Rows.boot_all (pa_cons
            (pe_lc (own := [("turn", 3)]) (g := gName 3) (tt := tYes) (te := tCall (spRight K Pt) [] E0 (tCons (tVar 2) tNil)) rfl scLaw.nd (pi_range1 (by rfl) X.range (pa_cons pe_int pa_nil)) (blkOk_by (N := nmLaw) (sc := defScope sLaw) (by decide +kernel))
              (fun _ _ _ _ _ => pg_name (i := 3) scLaw.nd rfl (Or.inl rfl)) (fun _ _ _ _ _ => pts_nil) (fun _ _ _ _ _ => pe_callG GR hg hr (by rfl) X.gl_right X.fl_right.kp X.bl_right .nil pass0 (pa_cons (pv 2) pa_nil))) pa_nil))))
          (pss_one (ps_ret pe_bl)) pss_nil))))
      (pss_one (ps_ret pe_bl)), ?_⟩
    refine ⟨.ref a, rfl, a, _, rfl, .inl hS, 3, _, rfl, 1, _, rfl, _, rfl, ?_, ?_, ?_⟩
    · show -(2 ^ 62) ≤ (if (if (((ns.map V.int).length : Nat) : Int) < 3 then (((ns.map V.int).length : Nat) : Int) else 3) > 1 then (if (((ns.map V.int).length : Nat) : Int) < 3 then (((ns.map V.int).length : Nat) : Int) else 3) else 1)
      split <;> (try split) <;> omega
    · show (if (if (((ns.map V.int).length : Nat) : Int) < 3 then (((ns.map V.int).length : Nat) : Int) else 3) > 1 then (if (((ns.map V.int).length : Nat) : Int) < 3 then (((ns.map V.int).length : Nat) : Int) else 3) else 1) < 2 ^ 62
      split <;> (try split) <;> omega
    have turns : (if (if (((ns.map V.int).length : Nat) : Int) < 3 then (((ns.map V.int).length : Nat) : Int) else 3) > 1 then (if (((ns.map V.int).length : Nat) : Int) < 3 then (((ns.map V.int).length : Nat) : Int) else 3) else 1).toNat ≤ 3 := by
      split <;> (try split) <;> omega
    have tab0 : LamX.Tabs (tabR Pt) H := fun x hx => by
      rw [List.mem_singleton.mp hx]
      exact LamX.TabS.nil (hcs (cc, Pt) List.mem_cons_self)
    refine for_range (fun i σ H' => ∃ y1 y2 y3, σ = [some (.ref a), y1, y2, y3] ∧ LamX.ExtN H H' ∧ LamX.Tabs (tabR Pt) H') ⟨none, none, none, rfl, (fun b o h _ => h), tab0⟩ (fun k σ H1 hk hp => ?_) (fun σ H' hp => ?_)
    rotate_left
    · obtain ⟨y1, y2, y3, rfl, sm, t1⟩ := hp
      exact q H'
    obtain ⟨y1, y2, y3, rfl, sm, t1⟩ := hp
    have hk3 : k < 3 := Nat.lt_of_lt_of_le hk turns
    refine ⟨.ref a, rfl, _, rfl, a, ns, k, ?_, ext_sql sm hS, by omega, by omega, fun p o np po => ?_⟩
    · show [V.ref a, V.int (0 + (k : Int))] = _
      rw [Int.zero_add]
    have t2 := tabs_same t1 (sameN (o := o) np)
    have p2 : Pot (upd H1 p o) p 0 := Pot.put po
    refine ⟨3, rfl, by decide, by decide, fun D nD => ?_⟩
    have nDp : D ≠ p := p2.ne nD
    refine lc_range (fun i H' => ∃ bs : List Bool, bs.length = i ∧ (∀ b ∈ bs, b = true) ∧ H' D = some (.lst (bs.map V.bl)) ∧ BT p (upd H1 p o) H' ∧ LamX.Tabs (tabR Pt) H' ∧ Pot H' p (2000 * i)) ⟨[], rfl, (fun b hb => nomatch hb), upd_same, .of (.new nD), tabs_same t2 (sameN nD), p2.new nD⟩ (fun i H17 hi hp => ?_) (fun H17 hp => ?_)
    · obtain ⟨bs, c1, c2, c3, b2, tt, p2⟩ := hp
      have hi' : i < 3 := hi
      refine ⟨rfl, .ref p, rfl, p, _, rfl, p2, by omega, tt, fun H18 b18 t18 p18 => ?_⟩
      have c4 := b18 _ _ nDp c3 (fun _ z => by cases z)
      refine ⟨bs.map V.bl, c4, ?_, bs ++ [true], by rw [List.length_append, c1]; rfl, fun b hb => ?_, ?_, ?_, ?_, ?_⟩
      · rw [List.length_map, c1]
        exact line5 (by omega)
      · rcases List.mem_append.mp hb with hb | hb
        · exact c2 b hb
        · simpa using hb
      · rw [upd_same, List.map_append]
        rfl
      · intro b o' h1 h2 h3
        have nb : b ≠ D := fun z => by rw [z, nD] at h2; cases h2
        rw [upd_ne nb]
        exact b18 _ _ h1 (b2 _ _ h1 h2 h3) h3
      · intro x hx
        obtain ⟨ps, h1, h2, h3⟩ := t18 x hx
        refine ⟨ps, ?_, h2, fun pos cv hc => ?_⟩
        · rw [upd_ne (fun z => by rw [z, c4] at h1; cases h1)]
          exact h1
        · obtain ⟨k, e1, e2⟩ := h3 pos cv hc
          refine ⟨k, e1, ?_⟩
          rw [upd_ne (fun z => by rw [z, c4] at e2; cases e2)]
          exact e2
      · exact (p18.oth nDp.symm).le (by omega)
    · obtain ⟨bs, c1, c2, c3, b2, tt, p2⟩ := hp
      have eall : bs.all id = true := by
        rw [List.all_eq_true]
        intro b hb
        rw [c2 b hb]
        rfl
      refine ⟨D, bs, rfl, .inl (.inl c3), _, rfl, ?_⟩
      rw [eall]
      refine ⟨_, _, _, rfl, fun b o' h1 h2 => ?_, tt⟩
      have nb : b ≠ p := fun z => by rw [z] at h1; have := sm b o' ; rw [z] at this; exact absurd (this h1 h2) (by rw [np]; exact fun z => nomatch z)
      exact b2 _ _ nb (by rw [upd_ne nb]; exact sm _ _ h1 h2) h2
end
end C25

set_option Elab.async false
set_option linter.all false
set_option maxRecDepth 100000
namespace C25
open PySem PySem.Spec PyProof.Rows L2 Loc RZ
set_option maxHeartbeats 0 in
theorem all_mk {l : PySem.W.OpenLaw} {w : World} {K : PySem.W.Frag} {h : Heap} {mg : Str → Option Value} {fa : Addr} (X : K.In h) (G : h.Ns mainGlobals mg) (hfa : mg "law" = some (.ref fa))
    {cB : Addr} (gcB : PySem.W.nsIn K mainGlobals "BlockError" = some (some (.ref cB)))
    {cT : Addr} (gcT : PySem.W.nsIn K mainGlobals "BadText" = some (some (.ref cT)))
    {cL : Addr} (gcL : PySem.W.nsIn K mainGlobals "TooLong" = some (some (.ref cL)))
    {cI : Addr} (gcI : PySem.W.nsIn K mainGlobals "NoIndex" = some (some (.ref cI)))
    {cR : Addr} (gcR : PySem.W.nsIn K mainGlobals "NoRange" = some (some (.ref cR)))
    {nmL qL : Str} {NL : Addr} {bsL : List Value} {snL : List Str} {subL : List Value} {abL : Bool} {colL : Option Bool} {ddL : Option Addr} {m0L m1L m2L m3L m5L : Option Value}
    (xL : K.lookup cL = some (excClassObj nmL qL cL NL bsL [.ref cB, .type "ValueError", .type "Exception", .type "BaseException", .type "object"] true snL subL abL colL ddL m0L m1L m2L m3L m5L "ValueError.__new__"))
    (saL : PySem.W.findIn K (.ref cL) "__setattr__" = some (some (.builtin "object.__setattr__"))) (gaL : PySem.W.findIn K (.ref cL) "__getattribute__" = some (some (.builtin "BaseException.__getattribute__"))) (ggL : PySem.W.findIn K (.ref cL) "__getattr__" = some none) (nbL : PySem.W.findIn K (.ref cL) "limit" = some none)
    (clL : PySem.W.findIn K (.ref cL) "__class__" = some (some (.builtin "object.__class__"))) (mrL : PySem.W.mroIn K cL (.type "object") = some true) (kCL : PySem.W.keepIn K (.ref cL) = true) (eCL : PySem.W.subIn K (.ref cL) (.type "BaseException") = some true) (tCL : PySem.W.typeIn K (.ref cL) = some (.type "type")) (hCL : PySem.W.hasDictIn K cL = true)
    {iL : Addr} {odL anL : Option Addr} {slL : Array (Option Value)} {ocL kVL dcL pmL cdL ctL : Value}
    (inL : PySem.W.findIn K (.ref cL) "__init__" = some (some (.ref iL))) (tiL : PySem.W.typeIn K (.ref iL) = some (.type "function"))
    (liL : K.lookup iL = some ⟨ocL, odL, .func (PySem.W.fnOf "__init__" "TooLong.__init__" (defArgs sInitL) (defBody sInitL) (defScope sInitL) .none kVL dcL pmL anL cdL ctL), slL⟩) (ciL : PySem.W.codeIn K cdL "TooLong.__init__" = true) (kiL : PySem.W.keepIn K (.ref iL) = true)
    {nmI qI : Str} {NI : Addr} {bsI : List Value} {snI : List Str} {subI : List Value} {abI : Bool} {colI : Option Bool} {ddI : Option Addr} {m0I m1I m2I m3I m5I : Option Value}
    (xI : K.lookup cI = some (excClassObj nmI qI cI NI bsI [.ref cB, .type "ValueError", .type "Exception", .type "BaseException", .type "object"] true snI subI abI colI ddI m0I m1I m2I m3I m5I "ValueError.__new__"))
    (saI : PySem.W.findIn K (.ref cI) "__setattr__" = some (some (.builtin "object.__setattr__"))) (gaI : PySem.W.findIn K (.ref cI) "__getattribute__" = some (some (.builtin "BaseException.__getattribute__"))) (ggI : PySem.W.findIn K (.ref cI) "__getattr__" = some none) (nbI : PySem.W.findIn K (.ref cI) "index" = some none)
    (clI : PySem.W.findIn K (.ref cI) "__class__" = some (some (.builtin "object.__class__"))) (mrI : PySem.W.mroIn K cI (.type "object") = some true) (kCI : PySem.W.keepIn K (.ref cI) = true) (eCI : PySem.W.subIn K (.ref cI) (.type "BaseException") = some true) (tCI : PySem.W.typeIn K (.ref cI) = some (.type "type")) (hCI : PySem.W.hasDictIn K cI = true)
    {iI : Addr} {odI anI : Option Addr} {slI : Array (Option Value)} {ocI kVI dcI pmI cdI ctI : Value}
    (inI : PySem.W.findIn K (.ref cI) "__init__" = some (some (.ref iI))) (tiI : PySem.W.typeIn K (.ref iI) = some (.type "function"))
    (liI : K.lookup iI = some ⟨ocI, odI, .func (PySem.W.fnOf "__init__" "NoIndex.__init__" (defArgs sInitI) (defBody sInitI) (defScope sInitI) .none kVI dcI pmI anI cdI ctI), slI⟩) (ciI : PySem.W.codeIn K cdI "NoIndex.__init__" = true) (kiI : PySem.W.keepIn K (.ref iI) = true)
    (sp0 : PySem.W.specialIn K (.builtin "object.__class__") "__get__" = some (some (.builtin "getset_descriptor.__get__"))) (tk0 : PySem.W.takesIn K (.builtin "object.__class__") = some true)
    (sB : PySem.W.subIn K (.ref cB) (.type "BaseException") = some true) (hB : PySem.W.hasDictIn K cB = true) (tB : PySem.W.typeIn K (.ref cB) = some (.type "type"))  (hT : PySem.W.hasDictIn K cT = true) (tT : PySem.W.typeIn K (.ref cT) = some (.type "type"))  (hR : PySem.W.hasDictIn K cR = true) (tR : PySem.W.typeIn K (.ref cR) = some (.type "type"))
    (sLB : PySem.W.subIn K (.ref cL) (.ref cB) = some true) (sIB : PySem.W.subIn K (.ref cI) (.ref cB) = some true) (nLI : (cL == cI) = false) (sLI : PySem.W.subIn K (.ref cL) (.ref cI) = some false)  (nLR : (cL == cR) = false) (sLR : PySem.W.subIn K (.ref cL) (.ref cR) = some false)  (nLT : (cL == cT) = false) (sLT : PySem.W.subIn K (.ref cL) (.ref cT) = some false)  (nIL : (cI == cL) = false) (sIL : PySem.W.subIn K (.ref cI) (.ref cL) = some false)  (nIR : (cI == cR) = false) (sIR : PySem.W.subIn K (.ref cI) (.ref cR) = some false)  (nIT : (cI == cT) = false) (sIT : PySem.W.subIn K (.ref cI) (.ref cT) = some false)
    {f0 : Addr} {od0 an0 : Option Addr} {sl0 : Array (Option Value)} {oc0 kV0 dc0 pm0 ct0 : Value} {cd0 : Value}
    (a0 : PySem.W.nsIn K mainGlobals "is_whole" = some (some (.ref f0)))
    (l0 : K.lookup f0 = some ⟨oc0, od0, .func (PySem.W.fnOf "is_whole" "is_whole" (defArgs sWhole) (defBody sWhole) (defScope sWhole) .none kV0 dc0 pm0 an0 cd0 ct0), sl0⟩)
    (c0 : PySem.W.codeIn K cd0 "is_whole" = true) (k0 : PySem.W.keepIn K (.ref f0) = true)
    {f1 : Addr} {od1 an1 : Option Addr} {sl1 : Array (Option Value)} {oc1 kV1 dc1 pm1 ct1 : Value} {cd1 : Value}
    (a1 : PySem.W.nsIn K mainGlobals "is_run" = some (some (.ref f1)))
    (l1 : K.lookup f1 = some ⟨oc1, od1, .func (PySem.W.fnOf "is_run" "is_run" (defArgs sIsRun) (defBody sIsRun) (defScope sIsRun) .none kV1 dc1 pm1 an1 cd1 ct1), sl1⟩)
    (c1 : PySem.W.codeIn K cd1 "is_run" = true) (k1 : PySem.W.keepIn K (.ref f1) = true)
    {f2 : Addr} {od2 an2 : Option Addr} {sl2 : Array (Option Value)} {oc2 kV2 dc2 pm2 ct2 : Value} {cd2 : Value}
    (a2 : PySem.W.nsIn K mainGlobals "is_block" = some (some (.ref f2)))
    (l2 : K.lookup f2 = some ⟨oc2, od2, .func (PySem.W.fnOf "is_block" "is_block" (defArgs sIsBlk) (defBody sIsBlk) (defScope sIsBlk) .none kV2 dc2 pm2 an2 cd2 ct2), sl2⟩)
    (c2 : PySem.W.codeIn K cd2 "is_block" = true) (k2 : PySem.W.keepIn K (.ref f2) = true)
    {f3 : Addr} {od3 an3 : Option Addr} {sl3 : Array (Option Value)} {oc3 kV3 dc3 pm3 ct3 : Value} {cd3 : Value}
    (a3 : PySem.W.nsIn K mainGlobals "has_parts" = some (some (.ref f3)))
    (l3 : K.lookup f3 = some ⟨oc3, od3, .func (PySem.W.fnOf "has_parts" "has_parts" (defArgs sHasParts) (defBody sHasParts) (defScope sHasParts) .none kV3 dc3 pm3 an3 cd3 ct3), sl3⟩)
    (c3 : PySem.W.codeIn K cd3 "has_parts" = true) (k3 : PySem.W.keepIn K (.ref f3) = true)
    {f4 : Addr} {od4 an4 : Option Addr} {sl4 : Array (Option Value)} {oc4 kV4 dc4 pm4 ct4 : Value} {cd4 : Value}
    (a4 : PySem.W.nsIn K mainGlobals "run_of" = some (some (.ref f4)))
    (l4 : K.lookup f4 = some ⟨oc4, od4, .func (PySem.W.fnOf "run_of" "run_of" (defArgs sRunOf) (defBody sRunOf) (defScope sRunOf) .none kV4 dc4 pm4 an4 cd4 ct4), sl4⟩)
    (c4 : PySem.W.codeIn K cd4 "run_of" = true) (k4 : PySem.W.keepIn K (.ref f4) = true)
    {f5 : Addr} {od5 an5 : Option Addr} {sl5 : Array (Option Value)} {oc5 kV5 dc5 pm5 ct5 : Value} {cd5 : Value}
    (a5 : PySem.W.nsIn K mainGlobals "size_of" = some (some (.ref f5)))
    (l5 : K.lookup f5 = some ⟨oc5, od5, .func (PySem.W.fnOf "size_of" "size_of" (defArgs sSize) (defBody sSize) (defScope sSize) .none kV5 dc5 pm5 an5 cd5 ct5), sl5⟩)
    (c5 : PySem.W.codeIn K cd5 "size_of" = true) (k5 : PySem.W.keepIn K (.ref f5) = true)
    {f6 : Addr} {od6 an6 : Option Addr} {sl6 : Array (Option Value)} {oc6 kV6 dc6 pm6 ct6 : Value} {cd6 : Value}
    (a6 : PySem.W.nsIn K mainGlobals "text_of" = some (some (.ref f6)))
    (l6 : K.lookup f6 = some ⟨oc6, od6, .func (PySem.W.fnOf "text_of" "text_of" (defArgs sText) (defBody sText) (defScope sText) .none kV6 dc6 pm6 an6 cd6 ct6), sl6⟩)
    (c6 : PySem.W.codeIn K cd6 "text_of" = true) (k6 : PySem.W.keepIn K (.ref f6) = true)
    {f7 : Addr} {od7 an7 : Option Addr} {sl7 : Array (Option Value)} {oc7 kV7 dc7 pm7 ct7 : Value} {cd7 : Value}
    (a7 : PySem.W.nsIn K mainGlobals "rest_from" = some (some (.ref f7)))
    (l7 : K.lookup f7 = some ⟨oc7, od7, .func (PySem.W.fnOf "rest_from" "rest_from" (defArgs sRestFrom) (defBody sRestFrom) (defScope sRestFrom) .none kV7 dc7 pm7 an7 cd7 ct7), sl7⟩)
    (c7 : PySem.W.codeIn K cd7 "rest_from" = true) (k7 : PySem.W.keepIn K (.ref f7) = true)
    {f8 : Addr} {od8 an8 : Option Addr} {sl8 : Array (Option Value)} {oc8 kV8 dc8 pm8 ct8 : Value} {cd8 : Value}
    (a8 : PySem.W.nsIn K mainGlobals "take_first" = some (some (.ref f8)))
    (l8 : K.lookup f8 = some ⟨oc8, od8, .func (PySem.W.fnOf "take_first" "take_first" (defArgs sTakeFirst) (defBody sTakeFirst) (defScope sTakeFirst) .none kV8 dc8 pm8 an8 cd8 ct8), sl8⟩)
    (c8 : PySem.W.codeIn K cd8 "take_first" = true) (k8 : PySem.W.keepIn K (.ref f8) = true)
    {f9 : Addr} {od9 an9 : Option Addr} {sl9 : Array (Option Value)} {oc9 kV9 dc9 pm9 ct9 : Value} {cd9 : Value}
    (a9 : PySem.W.nsIn K mainGlobals "open_first" = some (some (.ref f9)))
    (l9 : K.lookup f9 = some ⟨oc9, od9, .func (PySem.W.fnOf "open_first" "open_first" (defArgs sOpenFirst) (defBody sOpenFirst) (defScope sOpenFirst) .none kV9 dc9 pm9 an9 cd9 ct9), sl9⟩)
    (c9 : PySem.W.codeIn K cd9 "open_first" = true) (k9 : PySem.W.keepIn K (.ref f9) = true)
    {f10 : Addr} {od10 an10 : Option Addr} {sl10 : Array (Option Value)} {oc10 kV10 dc10 pm10 ct10 : Value} {cd10 : Value}
    (a10 : PySem.W.nsIn K mainGlobals "first_marks" = some (some (.ref f10)))
    (l10 : K.lookup f10 = some ⟨oc10, od10, .func (PySem.W.fnOf "first_marks" "first_marks" (defArgs sFirst) (defBody sFirst) (defScope sFirst) .none kV10 dc10 pm10 an10 cd10 ct10), sl10⟩)
    (c10 : PySem.W.codeIn K cd10 "first_marks" = true) (k10 : PySem.W.keepIn K (.ref f10) = true)
    {f11 : Addr} {od11 an11 : Option Addr} {sl11 : Array (Option Value)} {oc11 kV11 dc11 pm11 ct11 : Value} {cd11 : Value}
    (a11 : PySem.W.nsIn K mainGlobals "_first_mark" = some (some (.ref f11)))
    (l11 : K.lookup f11 = some ⟨oc11, od11, .func (PySem.W.fnOf "_first_mark" "_first_mark" (defArgs sFM) (defBody sFM) (defScope sFM) .none kV11 dc11 pm11 an11 cd11 ct11), sl11⟩)
    (c11 : PySem.W.codeIn K cd11 "_first_mark" = true) (k11 : PySem.W.keepIn K (.ref f11) = true)
    {f12 : Addr} {od12 an12 : Option Addr} {sl12 : Array (Option Value)} {oc12 kV12 dc12 pm12 ct12 : Value} {cd12 : Value}
    (a12 : PySem.W.nsIn K mainGlobals "_first_unlike" = some (some (.ref f12)))
    (l12 : K.lookup f12 = some ⟨oc12, od12, .func (PySem.W.fnOf "_first_unlike" "_first_unlike" (defArgs sFU) (defBody sFU) (defScope sFU) .none kV12 dc12 pm12 an12 cd12 ct12), sl12⟩)
    (c12 : PySem.W.codeIn K cd12 "_first_unlike" = true) (k12 : PySem.W.keepIn K (.ref f12) = true)
    {f13 : Addr} {od13 an13 : Option Addr} {sl13 : Array (Option Value)} {oc13 kV13 dc13 pm13 ct13 : Value} {cd13 : Value}
    (a13 : PySem.W.nsIn K mainGlobals "_code_at" = some (some (.ref f13)))
    (l13 : K.lookup f13 = some ⟨oc13, od13, .func (PySem.W.fnOf "_code_at" "_code_at" (defArgs sCodeAt) (defBody sCodeAt) (defScope sCodeAt) .none kV13 dc13 pm13 an13 cd13 ct13), sl13⟩)
    (c13 : PySem.W.codeIn K cd13 "_code_at" = true) (k13 : PySem.W.keepIn K (.ref f13) = true)
    {f14 : Addr} {od14 an14 : Option Addr} {sl14 : Array (Option Value)} {oc14 kV14 dc14 pm14 ct14 : Value} {cd14 : Value}
    (a14 : PySem.W.nsIn K mainGlobals "next_marks" = some (some (.ref f14)))
    (l14 : K.lookup f14 = some ⟨oc14, od14, .func (PySem.W.fnOf "next_marks" "next_marks" (defArgs sNext) (defBody sNext) (defScope sNext) .none kV14 dc14 pm14 an14 cd14 ct14), sl14⟩)
    (c14 : PySem.W.codeIn K cd14 "next_marks" = true) (k14 : PySem.W.keepIn K (.ref f14) = true)
    {f15 : Addr} {od15 an15 : Option Addr} {sl15 : Array (Option Value)} {oc15 kV15 dc15 pm15 ct15 : Value} {cd15 : Value}
    (a15 : PySem.W.nsIn K mainGlobals "_next_mark" = some (some (.ref f15)))
    (l15 : K.lookup f15 = some ⟨oc15, od15, .func (PySem.W.fnOf "_next_mark" "_next_mark" (defArgs sNm) (defBody sNm) (defScope sNm) .none kV15 dc15 pm15 an15 cd15 ct15), sl15⟩)
    (c15 : PySem.W.codeIn K cd15 "_next_mark" = true) (k15 : PySem.W.keepIn K (.ref f15) = true)
    {f16 : Addr} {od16 an16 : Option Addr} {sl16 : Array (Option Value)} {oc16 kV16 dc16 pm16 ct16 : Value} {cd16 : Value}
    (a16 : PySem.W.nsIn K mainGlobals "marks" = some (some (.ref f16)))
    (l16 : K.lookup f16 = some ⟨oc16, od16, .func (PySem.W.fnOf "marks" "marks" (defArgs sMarks) (defBody sMarks) (defScope sMarks) .none kV16 dc16 pm16 an16 cd16 ct16), sl16⟩)
    (c16 : PySem.W.codeIn K cd16 "marks" = true) (k16 : PySem.W.keepIn K (.ref f16) = true)
    {f17 : Addr} {od17 an17 : Option Addr} {sl17 : Array (Option Value)} {oc17 kV17 dc17 pm17 ct17 : Value} {cd17 : Value}
    (a17 : PySem.W.nsIn K mainGlobals "peaks" = some (some (.ref f17)))
    (l17 : K.lookup f17 = some ⟨oc17, od17, .func (PySem.W.fnOf "peaks" "peaks" (defArgs sPeaks) (defBody sPeaks) (defScope sPeaks) .none kV17 dc17 pm17 an17 cd17 ct17), sl17⟩)
    (c17 : PySem.W.codeIn K cd17 "peaks" = true) (k17 : PySem.W.keepIn K (.ref f17) = true)
    {f18 : Addr} {od18 an18 : Option Addr} {sl18 : Array (Option Value)} {oc18 kV18 dc18 pm18 ct18 : Value} {cd18 : Value}
    (a18 : PySem.W.nsIn K mainGlobals "cuts" = some (some (.ref f18)))
    (l18 : K.lookup f18 = some ⟨oc18, od18, .func (PySem.W.fnOf "cuts" "cuts" (defArgs sCuts) (defBody sCuts) (defScope sCuts) .none kV18 dc18 pm18 an18 cd18 ct18), sl18⟩)
    (c18 : PySem.W.codeIn K cd18 "cuts" = true) (k18 : PySem.W.keepIn K (.ref f18) = true)
    {f19 : Addr} {od19 an19 : Option Addr} {sl19 : Array (Option Value)} {oc19 kV19 dc19 pm19 ct19 : Value} {cd19 : Value}
    (a19 : PySem.W.nsIn K mainGlobals "blocks" = some (some (.ref f19)))
    (l19 : K.lookup f19 = some ⟨oc19, od19, .func (PySem.W.fnOf "blocks" "blocks" (defArgs sBlocks) (defBody sBlocks) (defScope sBlocks) .none kV19 dc19 pm19 an19 cd19 ct19), sl19⟩)
    (c19 : PySem.W.codeIn K cd19 "blocks" = true) (k19 : PySem.W.keepIn K (.ref f19) = true)
    {f20 : Addr} {od20 an20 : Option Addr} {sl20 : Array (Option Value)} {oc20 kV20 dc20 pm20 ct20 : Value} {cd20 : Value}
    (a20 : PySem.W.nsIn K mainGlobals "made_runs" = some (some (.ref f20)))
    (l20 : K.lookup f20 = some ⟨oc20, od20, .func (PySem.W.fnOf "made_runs" "made_runs" (defArgs sMade) (defBody sMade) (defScope sMade) .none kV20 dc20 pm20 an20 cd20 ct20), sl20⟩)
    (c20 : PySem.W.codeIn K cd20 "made_runs" = true) (k20 : PySem.W.keepIn K (.ref f20) = true)
    {f21 : Addr} {od21 an21 : Option Addr} {sl21 : Array (Option Value)} {oc21 kV21 dc21 pm21 ct21 : Value} {cd21 : Value}
    (a21 : PySem.W.nsIn K mainGlobals "rows_of" = some (some (.ref f21)))
    (l21 : K.lookup f21 = some ⟨oc21, od21, .func (PySem.W.fnOf "rows_of" "rows_of" (defArgs sRows) (defBody sRows) (defScope sRows) .none kV21 dc21 pm21 an21 cd21 ct21), sl21⟩)
    (c21 : PySem.W.codeIn K cd21 "rows_of" = true) (k21 : PySem.W.keepIn K (.ref f21) = true)
    {f22 : Addr} {od22 an22 : Option Addr} {sl22 : Array (Option Value)} {oc22 kV22 dc22 pm22 ct22 : Value} {cd22 : Value}
    (a22 : PySem.W.nsIn K mainGlobals "tree_of" = some (some (.ref f22)))
    (l22 : K.lookup f22 = some ⟨oc22, od22, .func (PySem.W.fnOf "tree_of" "tree_of" (defArgs sTree) (defBody sTree) (defScope sTree) .none kV22 dc22 pm22 an22 cd22 ct22), sl22⟩)
    (c22 : PySem.W.codeIn K cd22 "tree_of" = true) (k22 : PySem.W.keepIn K (.ref f22) = true)
    {f23 : Addr} {od23 an23 : Option Addr} {sl23 : Array (Option Value)} {oc23 kV23 dc23 pm23 ct23 : Value} {cd23 : Value}
    (a23 : PySem.W.nsIn K mainGlobals "length_of" = some (some (.ref f23)))
    (l23 : K.lookup f23 = some ⟨oc23, od23, .func (PySem.W.fnOf "length_of" "length_of" (defArgs sLenOf) (defBody sLenOf) (defScope sLenOf) .none kV23 dc23 pm23 an23 cd23 ct23), sl23⟩)
    (c23 : PySem.W.codeIn K cd23 "length_of" = true) (k23 : PySem.W.keepIn K (.ref f23) = true)
    {f24 : Addr} {od24 an24 : Option Addr} {sl24 : Array (Option Value)} {oc24 kV24 dc24 pm24 ct24 : Value} {cd24 : Value}
    (a24 : PySem.W.nsIn K mainGlobals "element_at" = some (some (.ref f24)))
    (l24 : K.lookup f24 = some ⟨oc24, od24, .func (PySem.W.fnOf "element_at" "element_at" (defArgs sElemAt) (defBody sElemAt) (defScope sElemAt) .none kV24 dc24 pm24 an24 cd24 ct24), sl24⟩)
    (c24 : PySem.W.codeIn K cd24 "element_at" = true) (k24 : PySem.W.keepIn K (.ref f24) = true)
    {f25 : Addr} {od25 an25 : Option Addr} {sl25 : Array (Option Value)} {oc25 kV25 dc25 pm25 ct25 : Value} {cd25 : Value}
    (a25 : PySem.W.nsIn K mainGlobals "elements_from" = some (some (.ref f25)))
    (l25 : K.lookup f25 = some ⟨oc25, od25, .func (PySem.W.fnOf "elements_from" "elements_from" (defArgs sElemsFrom) (defBody sElemsFrom) (defScope sElemsFrom) .none kV25 dc25 pm25 an25 cd25 ct25), sl25⟩)
    (c25 : PySem.W.codeIn K cd25 "elements_from" = true) (k25 : PySem.W.keepIn K (.ref f25) = true)
    {f26 : Addr} {od26 an26 : Option Addr} {sl26 : Array (Option Value)} {oc26 kV26 dc26 pm26 ct26 : Value} {cd26 : Value}
    (a26 : PySem.W.nsIn K mainGlobals "way_to" = some (some (.ref f26)))
    (l26 : K.lookup f26 = some ⟨oc26, od26, .func (PySem.W.fnOf "way_to" "way_to" (defArgs sWayTo) (defBody sWayTo) (defScope sWayTo) .none kV26 dc26 pm26 an26 cd26 ct26), sl26⟩)
    (c26 : PySem.W.codeIn K cd26 "way_to" = true) (k26 : PySem.W.keepIn K (.ref f26) = true)
    {f27 : Addr} {od27 an27 : Option Addr} {sl27 : Array (Option Value)} {oc27 kV27 dc27 pm27 ct27 : Value} {cd27 : Value}
    (a27 : PySem.W.nsIn K mainGlobals "_part_around" = some (some (.ref f27)))
    (l27 : K.lookup f27 = some ⟨oc27, od27, .func (PySem.W.fnOf "_part_around" "_part_around" (defArgs sPartAr) (defBody sPartAr) (defScope sPartAr) .none kV27 dc27 pm27 an27 cd27 ct27), sl27⟩)
    (c27 : PySem.W.codeIn K cd27 "_part_around" = true) (k27 : PySem.W.keepIn K (.ref f27) = true)
    {f28 : Addr} {od28 an28 : Option Addr} {sl28 : Array (Option Value)} {oc28 kV28 dc28 pm28 ct28 : Value} {cd28 : Value}
    (a28 : PySem.W.nsIn K mainGlobals "_law_pot" = some (some (.ref f28)))
    (l28 : K.lookup f28 = some ⟨oc28, od28, .func (PySem.W.fnOf "_law_pot" "_law_pot" (defArgs sPot) (defBody sPot) (defScope sPot) .none kV28 dc28 pm28 an28 cd28 ct28), sl28⟩)
    (c28 : PySem.W.codeIn K cd28 "_law_pot" = true) (k28 : PySem.W.keepIn K (.ref f28) = true)
    {f29 : Addr} {od29 an29 : Option Addr} {sl29 : Array (Option Value)} {oc29 kV29 dc29 pm29 ct29 : Value} {cd29 : Value}
    (a29 : PySem.W.nsIn K mainGlobals "_law_take" = some (some (.ref f29)))
    (l29 : K.lookup f29 = some ⟨oc29, od29, .func (PySem.W.fnOf "_law_take" "_law_take" (defArgs sTake) (defBody sTake) (defScope sTake) .none kV29 dc29 pm29 an29 cd29 ct29), sl29⟩)
    (c29 : PySem.W.codeIn K cd29 "_law_take" = true) (k29 : PySem.W.keepIn K (.ref f29) = true)
    {f30 : Addr} {od30 an30 : Option Addr} {sl30 : Array (Option Value)} {oc30 kV30 dc30 pm30 ct30 : Value} {cd30 : Value}
    (a30 : PySem.W.nsIn K mainGlobals "_law_of" = some (some (.ref f30)))
    (l30 : K.lookup f30 = some ⟨oc30, od30, .func (PySem.W.fnOf "_law_of" "_law_of" (defArgs sOf) (defBody sOf) (defScope sOf) .none kV30 dc30 pm30 an30 cd30 ct30), sl30⟩)
    (c30 : PySem.W.codeIn K cd30 "_law_of" = true) (k30 : PySem.W.keepIn K (.ref f30) = true)
    {f31 : Addr} {od31 an31 : Option Addr} {sl31 : Array (Option Value)} {oc31 kV31 dc31 pm31 ct31 : Value} {cd31 : Value}
    (a31 : PySem.W.nsIn K mainGlobals "_law_sequence" = some (some (.ref f31)))
    (l31 : K.lookup f31 = some ⟨oc31, od31, .func (PySem.W.fnOf "_law_sequence" "_law_sequence" (defArgs sSeq) (defBody sSeq) (defScope sSeq) .none kV31 dc31 pm31 an31 cd31 ct31), sl31⟩)
    (c31 : PySem.W.codeIn K cd31 "_law_sequence" = true) (k31 : PySem.W.keepIn K (.ref f31) = true)
    {f32 : Addr} {od32 an32 : Option Addr} {sl32 : Array (Option Value)} {oc32 kV32 dc32 pm32 ct32 : Value} {cd32 : Value}
    (a32 : PySem.W.nsIn K mainGlobals "_law_runs" = some (some (.ref f32)))
    (l32 : K.lookup f32 = some ⟨oc32, od32, .func (PySem.W.fnOf "_law_runs" "_law_runs" (defArgs sLRuns) (defBody sLRuns) (defScope sLRuns) .none kV32 dc32 pm32 an32 cd32 ct32), sl32⟩)
    (c32 : PySem.W.codeIn K cd32 "_law_runs" = true) (k32 : PySem.W.keepIn K (.ref f32) = true)
    {f33 : Addr} {od33 an33 : Option Addr} {sl33 : Array (Option Value)} {oc33 kV33 dc33 pm33 ct33 : Value} {cd33 : Value}
    (a33 : PySem.W.nsIn K mainGlobals "_law_wide" = some (some (.ref f33)))
    (l33 : K.lookup f33 = some ⟨oc33, od33, .func (PySem.W.fnOf "_law_wide" "_law_wide" (defArgs sWide) (defBody sWide) (defScope sWide) .none kV33 dc33 pm33 an33 cd33 ct33), sl33⟩)
    (c33 : PySem.W.codeIn K cd33 "_law_wide" = true) (k33 : PySem.W.keepIn K (.ref f33) = true)
    {f34 : Addr} {od34 an34 : Option Addr} {sl34 : Array (Option Value)} {oc34 kV34 dc34 pm34 ct34 : Value} {cd34 : Value}
    (a34 : PySem.W.nsIn K mainGlobals "_law_refusal" = some (some (.ref f34)))
    (l34 : K.lookup f34 = some ⟨oc34, od34, .func (PySem.W.fnOf "_law_refusal" "_law_refusal" (defArgs s__law_refusal) (defBody s__law_refusal) (defScope s__law_refusal) .none kV34 dc34 pm34 an34 cd34 ct34), sl34⟩)
    (c34 : PySem.W.codeIn K cd34 "_law_refusal" = true) (k34 : PySem.W.keepIn K (.ref f34) = true)
    {f35 : Addr} {od35 an35 : Option Addr} {sl35 : Array (Option Value)} {oc35 kV35 dc35 pm35 ct35 : Value} {cd35 : Value}
    (a35 : PySem.W.nsIn K mainGlobals "_law_element" = some (some (.ref f35)))
    (l35 : K.lookup f35 = some ⟨oc35, od35, .func (PySem.W.fnOf "_law_element" "_law_element" (defArgs s__law_element) (defBody s__law_element) (defScope s__law_element) .none kV35 dc35 pm35 an35 cd35 ct35), sl35⟩)
    (c35 : PySem.W.codeIn K cd35 "_law_element" = true) (k35 : PySem.W.keepIn K (.ref f35) = true)
    {f36 : Addr} {od36 an36 : Option Addr} {sl36 : Array (Option Value)} {oc36 kV36 dc36 pm36 ct36 : Value} {cc36 Pt36 : Addr}
    (a36 : PySem.W.nsIn K mainGlobals "_law_right" = some (some (.ref f36)))
    (l36 : K.lookup f36 = some ⟨oc36, od36, .func (PySem.W.fnOf "_law_right" "_law_right" (defArgs sRight) (defBody sRight) (defScope sRight) .none kV36 dc36 pm36 an36 (.ref cc36) ct36), sl36⟩)
    (c36 : PySem.W.codeIn K (.ref cc36) "_law_right" = true) (k36 : PySem.W.keepIn K (.ref f36) = true)
    {oo36 : Value} {oe36 : Option Addr} {vv36 : Array Value} {ss36 : Array (Option Value)} (t36 : K.lookup cc36 = some ⟨oo36, oe36, .fields vv36, ss36⟩) (v36 : vv36[11]? = some (.ref Pt36)) (n36 : K.lookup Pt36 = none)
    {f37 : Addr} {od37 an37 : Option Addr} {sl37 : Array (Option Value)} {oc37 kV37 dc37 pm37 ct37 : Value} {cd37 : Value}
    (a37 : PySem.W.nsIn K mainGlobals "law" = some (some (.ref f37)))
    (l37 : K.lookup f37 = some ⟨oc37, od37, .func (PySem.W.fnOf "law" "law" (defArgs sLaw) (defBody sLaw) (defScope sLaw) .none kV37 dc37 pm37 an37 cd37 ct37), sl37⟩)
    (c37 : PySem.W.codeIn K cd37 "law" = true) (k37 : PySem.W.keepIn K (.ref f37) = true)
    (z0 : PySem.W.nsIn K mainGlobals "ValueError" = some none)
    (z1 : PySem.W.nsIn K mainGlobals "abs" = some none)
    (z2 : PySem.W.nsIn K mainGlobals "all" = some none)
    (z3 : PySem.W.nsIn K mainGlobals "bool" = some none)
    (z4 : PySem.W.nsIn K mainGlobals "int" = some none)
    (z5 : PySem.W.nsIn K mainGlobals "isinstance" = some none)
    (z6 : PySem.W.nsIn K mainGlobals "len" = some none)
    (z7 : PySem.W.nsIn K mainGlobals "list" = some none)
    (z8 : PySem.W.nsIn K mainGlobals "max" = some none)
    (z9 : PySem.W.nsIn K mainGlobals "min" = some none)
    (z10 : PySem.W.nsIn K mainGlobals "range" = some none)
    (z11 : PySem.W.nsIn K mainGlobals "repr" = some none)
    (z12 : PySem.W.nsIn K mainGlobals "reversed" = some none)
    (z13 : PySem.W.nsIn K mainGlobals "str" = some none)
    (z14 : PySem.W.nsIn K mainGlobals "sum" = some none)
    (z15 : PySem.W.nsIn K mainGlobals "tuple" = some none)
    (z16 : PySem.W.nsIn K mainGlobals "zip" = some none)
    {tSIGNS : Tok} (y0 : PySem.W.nsIn K mainGlobals "SIGNS" = some (some (.str "0123456789 ()^" tSIGNS)))
    {tENDED : Tok} (y1 : PySem.W.nsIn K mainGlobals "ENDED" = some (some (.int 14 tENDED)))
    {tMOST_ELEMENTS : Tok} (y2 : PySem.W.nsIn K mainGlobals "MOST_ELEMENTS" = some (some (.int 2000 tMOST_ELEMENTS)))
    : ∃ (fd : FuncData) (cs : List (Addr × Addr)), (∀ p ∈ cs, K.lookup p.2 = none ∧ ∃ y ∈ (["_law_right"] : List Str), PySem.W.tabIn K y = some p) ∧ (∀ (s : Shared) (v : Value), BindsTo s fd ⟨[v], []⟩ [("script", v)]) ∧
      (∀ (H : Hp) (a : Addr) (ns : List Int), ns.length ≤ 63 → SqL K H a (ns.map V.int) → (∀ p ∈ cs, H p.2 = some (.tbl #[])) → spLaw K cs [.ref a] H (fun v _ => v = .bl true) fun _ _ _ => False) ∧
      ∀ base : Heap, K.In base → base.Ns mainGlobals mg → (∀ p ∈ cs, LamX.TabB base mg p.1 p.2) → FnG l.prog w K mg base CX0 27 fa fd ["script"] (spLaw K cs) := by
  have e := hfa.symm.trans (PySem.W.mg_of X G a37)
  cases e
  have F0 := fun_mk (st := sWhole) l0 c0 k0
  have b0 := F0.binds (ps := ["value"]) fun _ _ _ _ _ _ us hl => match us, hl with | [_], _ => rfl
  have F1 := fun_mk (st := sIsRun) l1 c1 k1
  have b1 := F1.binds (ps := ["value"]) fun _ _ _ _ _ _ us hl => match us, hl with | [_], _ => rfl
  have F2 := fun_mk (st := sIsBlk) l2 c2 k2
  have b2 := F2.binds (ps := ["value"]) fun _ _ _ _ _ _ us hl => match us, hl with | [_], _ => rfl
  have F3 := fun_mk (st := sHasParts) l3 c3 k3
  have b3 := F3.binds (ps := ["node"]) fun _ _ _ _ _ _ us hl => match us, hl with | [_], _ => rfl
  have F4 := fun_mk (st := sRunOf) l4 c4 k4
  have b4 := F4.binds (ps := ["node", "count"]) fun _ _ _ _ _ _ us hl => match us, hl with | [_, _], _ => rfl
  have F5 := fun_mk (st := sSize) l5 c5 k5
  have b5 := F5.binds (ps := ["node"]) fun _ _ _ _ _ _ us hl => match us, hl with | [_], _ => rfl
  have F6 := fun_mk (st := sText) l6 c6 k6
  have b6 := F6.binds (ps := ["node"]) fun _ _ _ _ _ _ us hl => match us, hl with | [_], _ => rfl
  have F7 := fun_mk (st := sRestFrom) l7 c7 k7
  have b7 := F7.binds (ps := ["tree", "index"]) fun _ _ _ _ _ _ us hl => match us, hl with | [_, _], _ => rfl
  have F8 := fun_mk (st := sTakeFirst) l8 c8 k8
  have b8 := F8.binds (ps := ["rest", "times"]) fun _ _ _ _ _ _ us hl => match us, hl with | [_, _], _ => rfl
  have F9 := fun_mk (st := sOpenFirst) l9 c9 k9
  have b9 := F9.binds (ps := ["rest"]) fun _ _ _ _ _ _ us hl => match us, hl with | [_], _ => rfl
  have F10 := fun_mk (st := sFirst) l10 c10 k10
  have b10 := F10.binds (ps := ["row"]) fun _ _ _ _ _ _ us hl => match us, hl with | [_], _ => rfl
  have F11 := fun_mk (st := sFM) l11 c11 k11
  have b11 := F11.binds (ps := ["texts", "place"]) fun _ _ _ _ _ _ us hl => match us, hl with | [_, _], _ => rfl
  have F12 := fun_mk (st := sFU) l12 c12 k12
  have b12 := F12.binds (ps := ["one", "other"]) fun _ _ _ _ _ _ us hl => match us, hl with | [_, _], _ => rfl
  have F13 := fun_mk (st := sCodeAt) l13 c13 k13
  have b13 := F13.binds (ps := ["text", "at"]) fun _ _ _ _ _ _ us hl => match us, hl with | [_, _], _ => rfl
  have F14 := fun_mk (st := sNext) l14 c14 k14
  have b14 := F14.binds (ps := ["some"]) fun _ _ _ _ _ _ us hl => match us, hl with | [_], _ => rfl
  have F15 := fun_mk (st := sNm) l15 c15 k15
  have b15 := F15.binds (ps := ["some", "place"]) fun _ _ _ _ _ _ us hl => match us, hl with | [_, _], _ => rfl
  have F16 := fun_mk (st := sMarks) l16 c16 k16
  have b16 := F16.binds (ps := ["row"]) fun _ _ _ _ _ _ us hl => match us, hl with | [_], _ => rfl
  have F17 := fun_mk (st := sPeaks) l17 c17 k17
  have b17 := F17.binds (ps := ["row"]) fun _ _ _ _ _ _ us hl => match us, hl with | [_], _ => rfl
  have F18 := fun_mk (st := sCuts) l18 c18 k18
  have b18 := F18.binds (ps := ["row"]) fun _ _ _ _ _ _ us hl => match us, hl with | [_], _ => rfl
  have F19 := fun_mk (st := sBlocks) l19 c19 k19
  have b19 := F19.binds (ps := ["row"]) fun _ _ _ _ _ _ us hl => match us, hl with | [_], _ => rfl
  have F20 := fun_mk (st := sMade) l20 c20 k20
  have b20 := F20.binds (ps := ["nodes"]) fun _ _ _ _ _ _ us hl => match us, hl with | [_], _ => rfl
  have F21 := fun_mk (st := sRows) l21 c21 k21
  have b21 := F21.binds (ps := ["runs"]) fun _ _ _ _ _ _ us hl => match us, hl with | [_], _ => rfl
  have F22 := fun_mk (st := sTree) l22 c22 k22
  have b22 := F22.binds (ps := ["runs"]) fun _ _ _ _ _ _ us hl => match us, hl with | [_], _ => rfl
  have F23 := fun_mk (st := sLenOf) l23 c23 k23
  have b23 := F23.binds (ps := ["tree"]) fun _ _ _ _ _ _ us hl => match us, hl with | [_], _ => rfl
  have F24 := fun_mk (st := sElemAt) l24 c24 k24
  have b24 := F24.binds (ps := ["tree", "index"]) fun _ _ _ _ _ _ us hl => match us, hl with | [_, _], _ => rfl
  have F25 := fun_mk (st := sElemsFrom) l25 c25 k25
  have b25 := F25.binds (ps := ["tree", "start", "stop"]) fun _ _ _ _ _ _ us hl => match us, hl with | [_, _, _], _ => rfl
  have F26 := fun_mk (st := sWayTo) l26 c26 k26
  have b26 := F26.binds (ps := ["tree", "index"]) fun _ _ _ _ _ _ us hl => match us, hl with | [_, _], _ => rfl
  have F27 := fun_mk (st := sPartAr) l27 c27 k27
  have b27 := F27.binds (ps := ["node", "begin", "index"]) fun _ _ _ _ _ _ us hl => match us, hl with | [_, _, _], _ => rfl
  have F28 := fun_mk (st := sPot) l28 c28 k28
  have b28 := F28.binds (ps := ["script", "k"]) fun _ _ _ _ _ _ us hl => match us, hl with | [_, _], _ => rfl
  have F29 := fun_mk (st := sTake) l29 c29 k29
  have b29 := F29.binds (ps := ["pot", "bound"]) fun _ _ _ _ _ _ us hl => match us, hl with | [_, _], _ => rfl
  have F30 := fun_mk (st := sOf) l30 c30 k30
  have b30 := F30.binds (ps := ["pot", "some"]) fun _ _ _ _ _ _ us hl => match us, hl with | [_, _], _ => rfl
  have F31 := fun_mk (st := sSeq) l31 c31 k31
  have b31 := F31.binds (ps := ["pot", "most"]) fun _ _ _ _ _ _ us hl => match us, hl with | [_, _], _ => rfl
  have F32 := fun_mk (st := sLRuns) l32 c32 k32
  have b32 := F32.binds (ps := ["some"]) fun _ _ _ _ _ _ us hl => match us, hl with | [_], _ => rfl
  have F33 := fun_mk (st := sWide) l33 c33 k33
  have b33 := F33.binds (ps := ["pot", "most"]) fun _ _ _ _ _ _ us hl => match us, hl with | [_, _], _ => rfl
  have F34 := fun_mk (st := s__law_refusal) l34 c34 k34
  have b34 := F34.binds (ps := ["ask"]) fun _ _ _ _ _ _ us hl => match us, hl with | [_], _ => rfl
  have F35 := fun_mk (st := s__law_element) l35 c35 k35
  have b35 := F35.binds (ps := ["given", "at"]) fun _ _ _ _ _ _ us hl => match us, hl with | [_, _], _ => rfl
  have F36 := fun_mk (st := sRight) l36 c36 k36
  have b36 := F36.binds (ps := ["pot"]) fun _ _ _ _ _ _ us hl => match us, hl with | [_], _ => rfl
  have F37 := fun_mk (st := sLaw) l37 c37 k37
  have FIL := fun_mk (st := sInitL) liL ciL kiL
  have bIL := FIL.binds (ps := ["self", "limit"]) fun _ _ _ _ _ _ us hl => match us, hl with | [_, _], _ => rfl
  have FII := fun_mk (st := sInitI) liI ciI kiI
  have bII := FII.binds (ps := ["self", "index"]) fun _ _ _ _ _ _ us hl => match us, hl with | [_, _], _ => rfl
  let Y : Facts K mg :=
    { fis_whole := F0, gis_whole := PySem.W.mg_of X G a0, bis_whole := b0, fis_run := F1, gis_run := PySem.W.mg_of X G a1, bis_run := b1, fis_block := F2, gis_block := PySem.W.mg_of X G a2, bis_block := b2, fhas_parts := F3, ghas_parts := PySem.W.mg_of X G a3, bhas_parts := b3, frun_of := F4, grun_of := PySem.W.mg_of X G a4, brun_of := b4, fsize_of := F5, gsize_of := PySem.W.mg_of X G a5, bsize_of := b5, ftext_of := F6, gtext_of := PySem.W.mg_of X G a6, btext_of := b6, frest_from := F7, grest_from := PySem.W.mg_of X G a7, brest_from := b7, ftake_first := F8, gtake_first := PySem.W.mg_of X G a8, btake_first := b8, fopen_first := F9, gopen_first := PySem.W.mg_of X G a9, bopen_first := b9, ffirst_marks := F10, gfirst_marks := PySem.W.mg_of X G a10, bfirst_marks := b10, ffirst_mark := F11, gfirst_mark := PySem.W.mg_of X G a11, bfirst_mark := b11, ffirst_unlike := F12, gfirst_unlike := PySem.W.mg_of X G a12, bfirst_unlike := b12, fcode_at := F13, gcode_at := PySem.W.mg_of X G a13, bcode_at := b13, fnext_marks := F14, gnext_marks := PySem.W.mg_of X G a14, bnext_marks := b14, fnext_mark := F15, gnext_mark := PySem.W.mg_of X G a15, bnext_mark := b15, fmarks := F16, gmarks := PySem.W.mg_of X G a16, bmarks := b16, fpeaks := F17, gpeaks := PySem.W.mg_of X G a17, bpeaks := b17, fcuts := F18, gcuts := PySem.W.mg_of X G a18, bcuts := b18, fblocks := F19, gblocks := PySem.W.mg_of X G a19, bblocks := b19, fmade_runs := F20, gmade_runs := PySem.W.mg_of X G a20, bmade_runs := b20, frows_of := F21, grows_of := PySem.W.mg_of X G a21, brows_of := b21, ftree_of := F22, gtree_of := PySem.W.mg_of X G a22, btree_of := b22, flength_of := F23, glength_of := PySem.W.mg_of X G a23, blength_of := b23, felement_at := F24, gelement_at := PySem.W.mg_of X G a24, belement_at := b24, felements_from := F25, gelements_from := PySem.W.mg_of X G a25, belements_from := b25, fway_to := F26, gway_to := PySem.W.mg_of X G a26, bway_to := b26, fpart_around := F27, gpart_around := PySem.W.mg_of X G a27, bpart_around := b27, fl_pot := F28, gl_pot := PySem.W.mg_of X G a28, bl_pot := b28, fl_take := F29, gl_take := PySem.W.mg_of X G a29, bl_take := b29, fl_of := F30, gl_of := PySem.W.mg_of X G a30, bl_of := b30, fl_sequence := F31, gl_sequence := PySem.W.mg_of X G a31, bl_sequence := b31, fl_runs := F32, gl_runs := PySem.W.mg_of X G a32, bl_runs := b32, fl_wide := F33, gl_wide := PySem.W.mg_of X G a33, bl_wide := b33, fl_refusal := F34, gl_refusal := PySem.W.mg_of X G a34, bl_refusal := b34, fl_element := F35, gl_element := PySem.W.mg_of X G a35, bl_element := b35, fl_right := F36, gl_right := PySem.W.mg_of X G a36, bl_right := b36, ValueError := PySem.W.mg_none_of X G z0, abs := PySem.W.mg_none_of X G z1, all := PySem.W.mg_none_of X G z2, bool := PySem.W.mg_none_of X G z3, int := PySem.W.mg_none_of X G z4, isinstance := PySem.W.mg_none_of X G z5, len := PySem.W.mg_none_of X G z6, list := PySem.W.mg_none_of X G z7, max := PySem.W.mg_none_of X G z8, min := PySem.W.mg_none_of X G z9, range := PySem.W.mg_none_of X G z10, repr := PySem.W.mg_none_of X G z11, reversed := PySem.W.mg_none_of X G z12, str := PySem.W.mg_none_of X G z13, sum := PySem.W.mg_none_of X G z14, tuple := PySem.W.mg_none_of X G z15, zip := PySem.W.mg_none_of X G z16, SIGNS := PySem.W.mg_of X G y0, ENDED := PySem.W.mg_of X G y1, MOST_ELEMENTS := PySem.W.mg_of X G y2, .. }
  let EF : ErrF K mg :=
    { gB := PySem.W.mg_of X G gcB, gT := PySem.W.mg_of X G gcT, gR := PySem.W.mg_of X G gcR, L := { g := PySem.W.mg_of X G gcL, ox := ⟨⟨nmL, qL, NL, bsL, _, snL, subL, abL, colL, ddL, m0L, m1L, m2L, m3L, m5L, xL, rfl⟩, saL, eCL, tCL, kCL⟩, er := ⟨gaL, ggL, eCL, hCL, clL, sp0, tk0, mrL⟩, no := nbL, iC := inL, tI := tiL, F := FIL, b := bIL },
      I := { g := PySem.W.mg_of X G gcI, ox := ⟨⟨nmI, qI, NI, bsI, _, snI, subI, abI, colI, ddI, m0I, m1I, m2I, m3I, m5I, xI, rfl⟩, saI, eCI, tCI, kCI⟩, er := ⟨gaI, ggI, eCI, hCI, clI, sp0, tk0, mrI⟩, no := nbI, iC := inI, tI := tiI, F := FII, b := bII },
      xL := PySem.W.exm_ref sB hB tB sLB, xI := PySem.W.exm_ref sB hB tB sIB, LI := kit_no nLI hCI tCI sLI, LL := kit_self, II := kit_self, IL := kit_no nIL hCL tCL sIL, Lo := kit_any2 (kit_no nLR hR tR sLR) (kit_no nLT hT tT sLT), Io := kit_any2 (kit_no nIR hR tR sIR) (kit_no nIT hT tT sIT), .. }
  refine ⟨_, [(cc36, Pt36)], ?_, fun s v => .of_eq rfl, fun H a ns hl hS ht => ⟨a, ns, rfl, hS, hl, ht, fun _ => rfl⟩, fun base _ _ hTB => ok_law F37 Y EF rfl (hTB _ List.mem_cons_self)⟩
  intro p hp
  simp only [List.mem_cons, List.not_mem_nil, or_false] at hp
  subst hp
  exact ⟨n36, _, List.mem_cons_self, tab_mk a36 l36 rfl t36 v36⟩
end C25
open PySem PySem.W PyProof.Rows
set_option maxHeartbeats 0 in
theorem PySem.Challenge.cw_localblocks_k25_far_elements_holds : PySem.Challenge.rw_localblocks_k25_far_elements.Holds := by
  w_on; o_law; k_head; (case hw => w_witness2)
  k_fill
  refine Loc.walkGT (l := PySem.Challenge.rw_localblocks_k25_far_elements) (n := 63) (k := 27) (x := "script") (sp := fun K cs => C25.spLaw K cs) ["_law_right"] rfl (by decide) rfl ⟨rfl, by decide, by decide⟩ (by decide +kernel) (fun w h Y => Y.1) ?F
  case F =>
    intro w mg fa h KX G hmg
    refine' C25.all_mk KX G hmg ?gcB ?gcT ?gcL ?gcI ?gcR ?xL ?saL ?gaL ?ggL ?nbL ?clL ?mrL ?kCL ?eCL ?tCL ?hCL ?inL ?tiL ?liL ?ciL ?kiL ?xI ?saI ?gaI ?ggI ?nbI ?clI ?mrI ?kCI ?eCI ?tCI ?hCI ?inI ?tiI ?liI ?ciI ?kiI ?sp0 ?tk0 ?sB ?hB ?tB ?hT ?tT ?hR ?tR ?sLB ?sIB ?nLI ?sLI ?nLR ?sLR ?nLT ?sLT ?nIL ?sIL ?nIR ?sIR ?nIT ?sIT ?a0 ?l0 ?c0 ?k0 ?a1 ?l1 ?c1 ?k1 ?a2 ?l2 ?c2 ?k2 ?a3 ?l3 ?c3 ?k3 ?a4 ?l4 ?c4 ?k4 ?a5 ?l5 ?c5 ?k5 ?a6 ?l6 ?c6 ?k6 ?a7 ?l7 ?c7 ?k7 ?a8 ?l8 ?c8 ?k8 ?a9 ?l9 ?c9 ?k9 ?a10 ?l10 ?c10 ?k10 ?a11 ?l11 ?c11 ?k11 ?a12 ?l12 ?c12 ?k12 ?a13 ?l13 ?c13 ?k13 ?a14 ?l14 ?c14 ?k14 ?a15 ?l15 ?c15 ?k15 ?a16 ?l16 ?c16 ?k16 ?a17 ?l17 ?c17 ?k17 ?a18 ?l18 ?c18 ?k18 ?a19 ?l19 ?c19 ?k19 ?a20 ?l20 ?c20 ?k20 ?a21 ?l21 ?c21 ?k21 ?a22 ?l22 ?c22 ?k22 ?a23 ?l23 ?c23 ?k23 ?a24 ?l24 ?c24 ?k24 ?a25 ?l25 ?c25 ?k25 ?a26 ?l26 ?c26 ?k26 ?a27 ?l27 ?c27 ?k27 ?a28 ?l28 ?c28 ?k28 ?a29 ?l29 ?c29 ?k29 ?a30 ?l30 ?c30 ?k30 ?a31 ?l31 ?c31 ?k31 ?a32 ?l32 ?c32 ?k32 ?a33 ?l33 ?c33 ?k33 ?a34 ?l34 ?c34 ?k34 ?a35 ?l35 ?c35 ?k35 ?a36 ?l36 ?c36 ?k36 ?t36 ?v36 ?n36 ?a37 ?l37 ?c37 ?k37 ?z0 ?z1 ?z2 ?z3 ?z4 ?z5 ?z6 ?z7 ?z8 ?z9 ?z10 ?z11 ?z12 ?z13 ?z14 ?z15 ?z16 ?y0 ?y1 ?y2
    (case gcB => k_is)
    (case gcT => k_is)
    (case gcL => k_is)
    (case gcI => k_is)
    (case gcR => k_is)
    (case xL => k_is)
    (case saL => k_is)
    (case gaL => k_is)
    (case ggL => k_is)
    (case nbL => first | k_is | rfl | decide +kernel)
    (case clL => k_is)
    (case mrL => k_is)
    (case kCL => k_is)
    (case eCL => k_is)
    (case tCL => k_is)
    (case hCL => k_is)
    (case inL => k_is)
    (case tiL => k_is)
    (case liL => k_is)
    (case ciL => k_is)
    (case kiL => k_is)
    (case xI => k_is)
    (case saI => k_is)
    (case gaI => k_is)
    (case ggI => k_is)
    (case nbI => first | k_is | rfl | decide +kernel)
    (case clI => k_is)
    (case mrI => k_is)
    (case kCI => k_is)
    (case eCI => k_is)
    (case tCI => k_is)
    (case hCI => k_is)
    (case inI => k_is)
    (case tiI => k_is)
    (case liI => k_is)
    (case ciI => k_is)
    (case kiI => k_is)
    (case sp0 => k_is)
    (case tk0 => k_is)
    (case sB => k_is)
    (case hB => k_is)
    (case tB => k_is)
    (case hT => k_is)
    (case tT => k_is)
    (case hR => k_is)
    (case tR => k_is)
    (case sLB => k_is)
    (case sIB => k_is)
    (case nLI => decide)
    (case sLI => k_is)
    (case nLR => decide)
    (case sLR => k_is)
    (case nLT => decide)
    (case sLT => k_is)
    (case nIL => decide)
    (case sIL => k_is)
    (case nIR => decide)
    (case sIR => k_is)
    (case nIT => decide)
    (case sIT => k_is)
    (case a0 => k_is)
    (case l0 => k_is)
    (case c0 => k_is)
    (case k0 => k_is)
    (case a1 => k_is)
    (case l1 => k_is)
    (case c1 => k_is)
    (case k1 => k_is)
    (case a2 => k_is)
    (case l2 => k_is)
    (case c2 => k_is)
    (case k2 => k_is)
    (case a3 => k_is)
    (case l3 => k_is)
    (case c3 => k_is)
    (case k3 => k_is)
    (case a4 => k_is)
    (case l4 => k_is)
    (case c4 => k_is)
    (case k4 => k_is)
    (case a5 => k_is)
    (case l5 => k_is)
    (case c5 => k_is)
    (case k5 => k_is)
    (case a6 => k_is)
    (case l6 => k_is)
    (case c6 => k_is)
    (case k6 => k_is)
    (case a7 => k_is)
    (case l7 => k_is)
    (case c7 => k_is)
    (case k7 => k_is)
    (case a8 => k_is)
    (case l8 => k_is)
    (case c8 => k_is)
    (case k8 => k_is)
    (case a9 => k_is)
    (case l9 => k_is)
    (case c9 => k_is)
    (case k9 => k_is)
    (case a10 => k_is)
    (case l10 => k_is)
    (case c10 => k_is)
    (case k10 => k_is)
    (case a11 => k_is)
    (case l11 => k_is)
    (case c11 => k_is)
    (case k11 => k_is)
    (case a12 => k_is)
    (case l12 => k_is)
    (case c12 => k_is)
    (case k12 => k_is)
    (case a13 => k_is)
    (case l13 => k_is)
    (case c13 => k_is)
    (case k13 => k_is)
    (case a14 => k_is)
    (case l14 => k_is)
    (case c14 => k_is)
    (case k14 => k_is)
    (case a15 => k_is)
    (case l15 => k_is)
    (case c15 => k_is)
    (case k15 => k_is)
    (case a16 => k_is)
    (case l16 => k_is)
    (case c16 => k_is)
    (case k16 => k_is)
    (case a17 => k_is)
    (case l17 => k_is)
    (case c17 => k_is)
    (case k17 => k_is)
    (case a18 => k_is)
    (case l18 => k_is)
    (case c18 => k_is)
    (case k18 => k_is)
    (case a19 => k_is)
    (case l19 => k_is)
    (case c19 => k_is)
    (case k19 => k_is)
    (case a20 => k_is)
    (case l20 => k_is)
    (case c20 => k_is)
    (case k20 => k_is)
    (case a21 => k_is)
    (case l21 => k_is)
    (case c21 => k_is)
    (case k21 => k_is)
    (case a22 => k_is)
    (case l22 => k_is)
    (case c22 => k_is)
    (case k22 => k_is)
    (case a23 => k_is)
    (case l23 => k_is)
    (case c23 => k_is)
    (case k23 => k_is)
    (case a24 => k_is)
    (case l24 => k_is)
    (case c24 => k_is)
    (case k24 => k_is)
    (case a25 => k_is)
    (case l25 => k_is)
    (case c25 => k_is)
    (case k25 => k_is)
    (case a26 => k_is)
    (case l26 => k_is)
    (case c26 => k_is)
    (case k26 => k_is)
    (case a27 => k_is)
    (case l27 => k_is)
    (case c27 => k_is)
    (case k27 => k_is)
    (case a28 => k_is)
    (case l28 => k_is)
    (case c28 => k_is)
    (case k28 => k_is)
    (case a29 => k_is)
    (case l29 => k_is)
    (case c29 => k_is)
    (case k29 => k_is)
    (case a30 => k_is)
    (case l30 => k_is)
    (case c30 => k_is)
    (case k30 => k_is)
    (case a31 => k_is)
    (case l31 => k_is)
    (case c31 => k_is)
    (case k31 => k_is)
    (case a32 => k_is)
    (case l32 => k_is)
    (case c32 => k_is)
    (case k32 => k_is)
    (case a33 => k_is)
    (case l33 => k_is)
    (case c33 => k_is)
    (case k33 => k_is)
    (case a34 => k_is)
    (case l34 => k_is)
    (case c34 => k_is)
    (case k34 => k_is)
    (case a35 => k_is)
    (case l35 => k_is)
    (case c35 => k_is)
    (case k35 => k_is)
    (case a36 => k_is)
    (case l36 => k_is)
    (case c36 => k_is)
    (case k36 => k_is)
    (case t36 => k_is)
    (case v36 => rfl)
    (case n36 => first | k_is | rfl | decide +kernel)
    (case a37 => k_is)
    (case l37 => k_is)
    (case c37 => k_is)
    (case k37 => k_is)
    (case z0 => k_is)
    (case z1 => k_is)
    (case z2 => k_is)
    (case z3 => k_is)
    (case z4 => k_is)
    (case z5 => k_is)
    (case z6 => k_is)
    (case z7 => k_is)
    (case z8 => k_is)
    (case z9 => k_is)
    (case z10 => k_is)
    (case z11 => k_is)
    (case z12 => k_is)
    (case z13 => k_is)
    (case z14 => k_is)
    (case z15 => k_is)
    (case z16 => k_is)
    (case y0 => k_is)
    (case y1 => k_is)
    (case y2 => k_is)


