import PyProof.Rows.All
import Wide.All
import OpenK.AllK
import Wide.FinOn
import HandS.ForMost
import HandS.Base
import HandS.Call
import HandS.List
import HandS.Comp
import HandS.Ends
import HandS.Words
import PyProof.ReprRoads
import PyProof.ReprLen
import PyProof.ReprText
import HandS.Wide
import HandS.WideBits
import HandS.Style
import HandS.Zip
import HandS.Flow
import PyProof.Rows.RuleB_pow
import PyProof.FitsInt
import PyProof.Rows.StrJoinMade
import HandS.IsInst
import HandS.TupAny
import HandS.Text
import PyProof.Rows.ReprOcc
import PyProof.FitsReplace
import PyProof.StrLawsRepr
import HandS.Replace
import HandS.Conv
import HandS.Sort
import HandS.Iter
import HandS.TupMul
import KE.GoesMore
import HandS.Rev
import KE.KRevSl
import HandS.Dict
import PyProof.ReprReads
import PyProof.CallFns
import PyProof.Rows.IntBool
import PyProof.CallStr
import PyProof.ReprBulk
import HandS.Exc
import HandS.ExcIs
import HandS.ExcField
import HandS.ExcOwn
import HandS.ExcValue
import KE.KExcIs
import HandS.Lambda
import PyProof.EqKinds
import PyProof.NeKinds
import HandS.TupSets
import PySem.Challenge.RW_localblocks_k01_nodes_of_any_value
set_option Elab.async false
set_option linter.all false
set_option maxRecDepth 100000
namespace Loc
open PySem PySem.Spec PyProof.Rows L2
/-! ### defs that are entered while no repr is under way -/
/-- as FnOk, for such an entry alone -/
structure FnG (P : Program) (w : World) (K : PySem.W.Frag) (mg : Str → Option Value) (base : Heap) (CX : CXT)
    (k : Nat) (f : Addr) (fd : FuncData) (ps : List Str) (sp : Sp) : Prop where
  cnt : ∀ {vs H Q E}, sp vs H Q E → vs.length = ps.length
  go : ∀ {A : Around} {out : List Env} {s : Shared} {H : Hp} {ar : Args} {us : List Value} {vs : List V} {Q : VK} {E : XK},
    A.guards = some [] → Room k A → Env0 P w K mg base A out s H → BindsTo s fd ar (ps.zip us) → Vals vs us → sp vs H Q E →
    codeAny (model P w) A (.call (.ref f) ar) (CR CX out P w H s Q E) s
section
variable {P : Program} {w : World} {K : PySem.W.Frag} {mg : Str → Option Value} {base : Heap} {CX : CXT} {k : Nat} {f : Addr} {fd : FuncData} {ps : List Str} {sp : Sp}
theorem FnG.of (F : FnOk P w K mg base CX k f fd ps sp) : FnG P w K mg base CX k f fd ps sp :=
  ⟨fun h => F.len _ _ _ _ h, fun _ hr he hb hv hs => F.run _ _ _ _ _ _ _ _ _ hr he hb hv hs⟩
theorem FnG.up {j : Nat} (F : FnG P w K mg base CX j f fd ps sp) (h : j ≤ k) : FnG P w K mg base CX k f fd ps sp :=
  ⟨F.cnt, fun g hr he hb hv hs => F.go g (hr.mono h) he hb hv hs⟩
/-- a def by its body, entered while no repr is under way -/
theorem fun_okG {x qual : Str} {st : Stmt} {N : List Str} (F : Fun K x qual st f fd) (S : FnScope N ps (defScope st)) (len : ∀ vs H Q E, sp vs H Q E → vs.length = ps.length)
    (hb : ∀ (cdv : Value) (A : Around) (out : List Env) (s : Shared) (H : Hp) (vs : List V) (Q : VK) (E : XK), A.guards = some [] →
      Room k (A.deeper (envOfC qual (defScope st) s.heap.objs.size f cdv)) → sp vs H Q E →
      ∃ t, PSs (cxOf CX P w K mg base N qual (defScope st) f cdv A out s H E).nox (defBody st) t ∧ t { nx := fun _ H' => Q .non H', rt := Q } (start N vs) H) :
    FnG P w K mg base CX (k + 1) f fd ps sp := by
  refine ⟨fun h => len _ _ _ _ h, fun {A out s H ar us vs Q E} hg hr e0 hbd r hsp => ?_⟩
  obtain ⟨oc, od, kV, doc, pm, an, cdv, ct, osl, rfl, lk, hcd⟩ := F.ex
  obtain ⟨t, ht, hq⟩ := hb cdv A out s H vs Q E hg (hr.deeper _) hsp
  have KX : K.In s.heap := e0.mod.kin.keeps fun b o e => (e0.bs b o e).1
  have lim : s.heap.NoLimit := e0.mod.nolimit.keeps fun b o e => (e0.bs b o e).1
  have kinds : ∀ y ∈ ps.zip us, (defScope st).names.lookup y.1 = some .local ∨ ((defScope st).names.lookup y.1 = some .cell ∧
      ((cellsFrom (s.heap.objs.size + 1) (defScope st).names []).lookup y.1).isSome = true) := by
    rintro ⟨n, v⟩ hy
    exact (S.par n (List.of_mem_zip hy).1).elim .inl fun q => .inr ⟨q, PySem.W.cellsFrom_some _ _ _ (.inl q)⟩
  refine codeAny_call_function hr.depth (KX _ _ lk) rfl S.co S.gen rfl (PySem.W.codeRec_of KX hcd) (hbd _ _ _ _ ?_)
  refine wpAny_newFunctionEnv_cells S.kind kinds fun env he s1 x => ?_
  subst he
  refine ⟨lim.keeps x.toInCall.keep, codeAny_func ?_⟩
  have I := inv_start (CX := CX) (E := E) (P := P) (w := w) S hr.hd e0 (len _ _ _ _ hsp) r x
  refine wpAny_mono (ht.nox.run [] s1 (start N vs) H _ I hq) (fun fl s' hs => ?_) fun _ _ hs => hs
  cases fl with
  | ret u => exact let ⟨v, σ', H', J, rv, q⟩ := hs; ⟨v, H', J.os, J.bare, J.base, J.hok, rv, q⟩
  | next => exact let ⟨σ', H', J, q⟩ := hs; ⟨V.non, H', J.os, J.bare, J.base, J.hok, rfl, q⟩
  | brk => exact let ⟨_, _, _, q⟩ := hs; q.elim
  | cont => exact let ⟨_, _, _, q⟩ := hs; q.elim
end
/-! ### repr of nested data -/
/-- repr(v), v nested data (no dict) that a heap bears -/
def rRep (K : PySem.W.Frag) : List V → Hp → VK → Prop := fun xs H Q => ∃ a d, xs = [.ref a] ∧ Dp K H (.ref a) d ∧
  d.showable = true ∧ d.hasDict = false ∧ d.depth ≤ 62 ∧ d.shown.length ≤ sizeLine ∧ Q (.str d.shown) H
theorem call_rep {X : Cx} {k : Nat} (hr : Room k X.A) (hg : X.A.guards = some []) : CallR X (.builtin "repr") (rRep X.K) := by
  intro pins s σ H xs us Q I r h
  obtain ⟨a, d, rfl, hd, h1, h2, h3, h4, q⟩ := h
  obtain ⟨u, rfl, ru⟩ := vals1 r
  cases ru
  obtain ⟨as, rd⟩ := Dp.reads I d _ _ hd rfl
  have hu := hr.units
  exact repr_of_reads' rd h1 (PyData.noDict_hsm h2) hg (by omega) (fun _ _ e => e) (fun h' u tk hk => ⟨.str d.shown, H, I.kept hk, ⟨u, rfl⟩, q⟩) h4
/-! ### nested data that a heap bears -/
theorem DpAll.ints {K : PySem.W.Frag} {H : Hp} : ∀ ns : List Int, DpAll K H (ns.map V.int) (ns.map PyData.int)
  | [] => .nil
  | n :: r => .cons (.int n) (DpAll.ints r)
mutual
theorem Dp.same {K : PySem.W.Frag} {H H' : Hp} (e : ∀ a, (∀ xs, SqL K H a xs → SqL K H' a xs) ∧ ∀ xs, SqT K H a xs → SqT K H' a xs) : ∀ {v : V} {d : PyData}, Dp K H v d → Dp K H' v d
  | _, _, .non => .non
  | _, _, .bl b => .bl b
  | _, _, .int i => .int i
  | _, _, .str x => .str x
  | _, _, .lst h t => .lst ((e _).1 _ h) (DpAll.same e t)
  | _, _, .tup h t => .tup ((e _).2 _ h) (DpAll.same e t)
theorem DpAll.same {K : PySem.W.Frag} {H H' : Hp} (e : ∀ a, (∀ xs, SqL K H a xs → SqL K H' a xs) ∧ ∀ xs, SqT K H a xs → SqT K H' a xs) : ∀ {vs : List V} {ds : List PyData}, DpAll K H vs ds → DpAll K H' vs ds
  | _, _, .nil => .nil
  | _, _, .cons h t => .cons (Dp.same e h) (DpAll.same e t)
end
end Loc

set_option Elab.async false
set_option linter.all false
set_option maxRecDepth 100000
namespace Loc
open PySem PySem.Spec PyProof.Rows L2
/-- the law's call, its def entered while no repr is under way -/
theorem callG {P : Program} {w : World} {K : PySem.W.Frag} {mg mb : Str → Option Value} {k : Nat} {fa a : Addr} {fd : FuncData} {x : Str} {sp : Sp} {s : Shared} {vs : List Value} {ns : List Int}
    (KX : K.In s.heap) (g1 : s.heap.Ns mainGlobals mg) (g2 : s.heap.Ns builtinsNs mb) (g3 : ∀ x : Str, x ≠ "__name__" → mb x = bootBuiltins x) (lim : s.heap.NoLimit) (gs : s.gens = #[])
    (ha : s.heap.get? a = some { cls := .type "list", data := .seq vs.toArray }) (hi : IntsAre vs ns) (hl : ns.length ≤ sizeLine) (hr : Room k callerA)
    (F : ∀ base : Heap, K.In base → base.Ns mainGlobals mg → FnG P w K mg base CX0 k fa fd [x] sp) (hb : ∀ (s : Shared) (u : Value), BindsTo s fd ⟨[u], []⟩ [(x, u)])
    (hsp : ∀ H : Hp, SqL K H a (ns.map V.int) → sp [.ref a] H (fun v _ => v = .bl true) fun _ _ _ => False) :
    codeAny (model P w) callerA (.call (.ref fa) ⟨[.ref a], []⟩) (fun r s' => r = .ok (.ret (.bool true)) ∧ OldK s.heap s'.heap ∧ s'.os = s.os ∧ AllBare s'.gens) s := by
  have rv := vals_ints hi
  have ln := hi.length
  -- H tracks at most the script, and that only where the module has not written it
  have main : ∀ H : Hp, (∀ b, H b = none ∨ (b = a ∧ K.lookup a = none ∧ ∃ o xs, H b = some (.frz o (.lst xs)))) → SqL K H a (ns.map V.int) → HOk P w H s.heap →
      codeAny (model P w) callerA (.call (.ref fa) ⟨[.ref a], []⟩) (fun r s' => r = .ok (.ret (.bool true)) ∧ OldK s.heap s'.heap ∧ s'.os = s.os ∧ AllBare s'.gens) s := by
    intro H only sq hok
    have nsOf : ∀ {b : Addr} {m : Str → Option Value}, s.heap.Ns b m → (hidT s.heap H).Ns b m := by
      rintro b m ⟨o, es, ep, e, d, r⟩
      refine ⟨o, es, ep, hidT_get e ?_, d, r⟩
      rcases only b with z | ⟨rfl, _, _⟩
      · exact z
      · rw [ha] at e
        cases e
        exact Data.noConfusion d
    have kb : K.In (hidT s.heap H) := fun b o e => hidT_get (KX b o e) (by
      rcases only b with z | ⟨rfl, z, _⟩
      · exact z
      · rw [z] at e
        cases e)
    obtain ⟨mc, l1, l2⟩ := lim
    have e0 : Env0 P w K mg (hidT s.heap H) callerA [] s H :=
      { frames := rfl, mod := ⟨kb, nsOf g1, ⟨mb, nsOf g2, g3⟩, ⟨mc, nsOf l1, l2⟩⟩, bs := fun _ _ e => of_hidT e, bsz := Nat.le_of_eq (hidT_size _ _), funs := trivial,
        frf := fun b hb => absurd (show b ∈ ([] : List Addr) from hb) List.not_mem_nil, hok := hok, bare := .of_eq gs }
    refine codeAny_mono ((F _ kb (nsOf g1)).go (us := [.ref a]) (vs := [.ref a]) rfl hr e0 (hb s (.ref a)) (.cons rfl .nil) (hsp H sq)) fun r s' h => ?_
    match r, h with
    | .error e, h => exact h.elim
    | .ok .next, h => exact h.elim
    | .ok .brk, h => exact h.elim
    | .ok .cont, h => exact h.elim
    | .ok (.ret u), ⟨v, H', os, bare, un, hok', rel, q⟩ =>
      have q' : v = .bl true := q
      subst q'
      have ru : u = Value.bool true := rel
      subst ru
      refine ⟨rfl, OldK.of_keep fun b o e => ?_, os, bare⟩
      rcases only b with z | ⟨_, _, ob, xs, z⟩
      · exact un.keep b o e z (fun m => absurd (show b ∈ ([] : List Addr) from m) List.not_mem_nil) List.not_mem_nil
      · have o1 := (hok b _ z).1
        have o2 := (hok' b _ (un.frzs b ob _ z)).1
        rw [e] at o1
        cases o1
        exact o2
  cases hk : K.lookup a with
  | some o =>
    have e := KX a o hk
    rw [ha] at e
    cases e
    refine main (fun _ => none) (fun _ => .inl rfl) (.inr ⟨_, vs.toArray, _, hk, rfl, rfl, rfl, ?_, by simpa using rv⟩) fun b u z => nomatch (show (none : Option HO) = some u from z)
    rw [List.size_toArray, ln]
    exact hl
  | none =>
    refine main (fun b => if b = a then some (.frz { cls := .type "list", data := .seq vs.toArray } (.lst (ns.map V.int))) else none) (fun b => ?_) (.inl (.inr ⟨_, if_pos rfl⟩)) fun b u z => ?_
    · by_cases e : b = a
      · exact .inr ⟨e, hk, _, _, if_pos e⟩
      · exact .inl (if_neg e)
    · by_cases e : b = a
      · have z' := (if_pos e).symm.trans z
        cases z'
        rw [e]
        exact ⟨ha, by rw [List.length_map]; exact hl, vs, _, rv, ha⟩
      · have z' := (if_neg e).symm.trans z
        cases z'
/-- the goal that k_head leaves, from such a promise of the law's def -/
theorem walkG {l : PySem.W.OpenLaw} {n k : Nat} {q : Program} {loose : List Str} {XP : (Str → Option Value) → Heap → Prop} {YP : World → Heap → Prop} {d : DefRec} {K : Params → PySem.W.Frag} {sp : PySem.W.Frag → Sp} {x : Str}
    (hn : l.most = some n) (hz : n ≤ sizeLine) (hd : d.params.defaults = []) (hr : Room k callerA) (hY : ∀ (w : World) (h : Heap), YP w h → (K w.params).In h)
    (F : ∀ (w : World) (mg : Str → Option Value) (fa : Addr) (h : Heap), (K w.params).In h → h.Ns mainGlobals mg → mg d.name = some (.ref fa) →
      ∃ fd : FuncData, (∀ (s : Shared) (u : Value), BindsTo s fd ⟨[u], []⟩ [(x, u)]) ∧
        ∀ base : Heap, (K w.params).In base → base.Ns mainGlobals mg → FnG l.prog w (K w.params) mg base CX0 k fa fd [x] (sp (K w.params)))
    (hsp : ∀ (K : PySem.W.Frag) (H : Hp) (a : Addr) (ns : List Int), ns.length ≤ n → SqL K H a (ns.map V.int) → sp K [.ref a] H (fun v _ => v = .bl true) fun _ _ _ => False) :
    PySem.W.WalkO q loose XP YP l.row.toRowW d [] (fun f vs => PySem.call f vs) := by
  refine Att.attach_call hn hd fun w s0 s1 mg mb fa o pm cd doc a vs ns G Y ho hd' hcd hmg hobj hints hlen hg => ?_
  obtain ⟨fd, hb, hF⟩ := F w mg fa _ (hY w _ Y) G.T.g hmg
  exact callG (hY w _ Y) G.T.g G.T.b G.T.builtins G.T.nolimit hg hobj hints (Nat.le_trans hlen hz) hr hF hb fun H hS => hsp _ H a ns hlen hS
end Loc

set_option Elab.async false
set_option linter.all false
set_option maxRecDepth 100000
/-! ### the heap but for one object -/
namespace Loc
open PySem PySem.Spec PyProof.Rows L2
/-- all but what stands at p is as it was -/
def But (p : Addr) (H H' : Hp) : Prop := ∀ b o, b ≠ p → H b = some o → H' b = some o
theorem But.refl (p : Addr) (H : Hp) : But p H H := fun _ _ _ h => h
theorem But.trans {p : Addr} {H H1 H2 : Hp} (a : But p H H1) (b : But p H1 H2) : But p H H2 := fun c o n h => b c o n (a c o n h)
theorem But.set {p : Addr} {H : Hp} {o : HO} : But p H (upd H p o) := fun b _ n h => by rw [upd_ne n]; exact h
theorem But.new {p q : Addr} {H : Hp} {o : HO} (h : H q = none) : But p H (upd H q o) := fun b _ _ e => by rw [upd_ne (ne_of_none e h)]; exact e
theorem But.at {p b : Addr} {H H' : Hp} {o : HO} (e : But p H H') (n : b ≠ p) (h : H b = some o) : H' b = some o := e b o n h
theorem But.sql {p a : Addr} {K : PySem.W.Frag} {H H' : Hp} {xs : List V} (e : But p H H') (n : a ≠ p) (h : SqL K H a xs) : SqL K H' a xs := by
  rcases h with (h | ⟨o, h⟩) | h
  · exact .inl (.inl (e _ _ n h))
  · exact .inl (.inr ⟨o, e _ _ n h⟩)
  · exact .inr h
/-- a tuple is no list -/
theorem But.sqt {p a : Addr} {K : PySem.W.Frag} {H H' : Hp} {xs ys : List V} (e : But p H H') (hp : H p = some (.lst ys)) (h : SqT K H a xs) : SqT K H' a xs := by
  rcases h with (h | ⟨o, h⟩) | h
  · exact .inl (.inl (e _ _ (ne_of h hp (by intro z; cases z)) h))
  · exact .inl (.inr ⟨o, e _ _ (ne_of h hp (by intro z; cases z)) h⟩)
  · exact .inr h
/-! ### the pot that the law draws from -/
/-- a pot's three numbers, drawn from at most c times -/
def PotO (o : HO) (c : Nat) : Prop := ∃ own mix cnt : Int, o = .lst [.int own, .int mix, .int cnt] ∧ 0 ≤ own ∧ own < 2 ^ 1000 ∧ 0 ≤ mix ∧ mix < 2305843009213693952 ∧ 0 ≤ cnt ∧ cnt ≤ c
def Pot (H : Hp) (p : Addr) (c : Nat) : Prop := ∃ o, H p = some o ∧ PotO o c
theorem PotO.le {o : HO} {c d : Nat} (h : PotO o c) (l : c ≤ d) : PotO o d := by
  obtain ⟨a, b, e, h1, h2, h3, h4, h5, h6, h7⟩ := h
  exact ⟨a, b, e, h1, h2, h3, h4, h5, h6, by omega⟩
theorem Pot.le {H : Hp} {p : Addr} {c d : Nat} (h : Pot H p c) (l : c ≤ d) : Pot H p d := let ⟨o, e, q⟩ := h; ⟨o, e, q.le l⟩
theorem Pot.ls {H : Hp} {p : Addr} {c : Nat} (h : Pot H p c) : ∃ ys, H p = some (.lst ys) := by
  obtain ⟨o, e, a, b, z, rfl, _⟩ := h
  exact ⟨_, e⟩
theorem Pot.new {H : Hp} {p q : Addr} {c : Nat} {o : HO} (h : Pot H p c) (n : H q = none) : Pot (upd H q o) p c := by
  obtain ⟨x, e, r⟩ := h
  exact ⟨x, by rw [upd_ne (ne_of_none e n)]; exact e, r⟩
theorem Pot.oth {H : Hp} {p q : Addr} {c : Nat} {o : HO} (h : Pot H p c) (n : p ≠ q) : Pot (upd H q o) p c := by
  obtain ⟨x, e, r⟩ := h
  exact ⟨x, by rw [upd_ne n]; exact e, r⟩
theorem Pot.put {H : Hp} {p : Addr} {c : Nat} {o : HO} (h : PotO o c) : Pot (upd H p o) p c := ⟨o, upd_same, h⟩

/-- script: the script; k: a small number -/
def spPot (K : PySem.W.Frag) : Sp := fun vs H Q _ => ∃ (a : Addr) (ns : List Int) (k : Nat), vs = [.ref a, .int k] ∧ SqL K H a (ns.map V.int) ∧ ns.length ≤ 1000 ∧ k ≤ 1000 ∧
  ∀ p o, H p = none → PotO o 0 → Q (.ref p) (upd H p o)
def spTake : Sp := fun vs H Q _ => ∃ (p : Addr) (b : Int) (c : Nat), vs = [.ref p, .int b] ∧ Pot H p c ∧ c < 1000000 ∧ 0 < b ∧ b < 2 ^ 1000 ∧
  ∀ (d : Int) H', 0 ≤ d → d < b → But p H H' → Pot H' p (c + 1) → Q (.int d) H'
def spOf : Sp := fun vs H Q _ => ∃ (p a : Addr) (xs : List V) (c : Nat), vs = [.ref p, .ref a] ∧ Pot H p c ∧ c < 1000000 ∧ a ≠ p ∧ H a = some (.lst xs) ∧ xs ≠ [] ∧ xs.length ≤ 1000 ∧
  ∀ (j : Nat) (x : V) H', xs[j]? = some x → But p H H' → Pot H' p (c + 1) → Q x H'

/-- ** of a great number -/
def CPowW (i j : Int) : Prop := 0 ≤ j ∧ (Builtin.Int.intBits i : Int) * j ≤ 2 ^ 27
theorem op_powW {X : Cx} : OpR X (binaryOp .Pow) (rI CPowW fun i j => .int (i ^ j.toNat)) := opI fun _ _ _ _ _ _ _ hc q => pow_int hc.1 hc.2 q
theorem pow60 : CPowW ((10 : Int) ^ (60 : Int).toNat) 5 := ⟨by decide, by decide +kernel⟩
theorem small_line {n : Nat} (h : n ≤ 100000) : n ≤ sizeLine := Nat.le_trans h (by decide)
theorem small_line' {n : Nat} (h : n ≤ 100000) : n < sizeLine := Nat.lt_of_le_of_lt h (by decide)
end Loc
namespace Loc
open PySem PySem.Spec PyProof.Rows L2
/-- two ways that meet in what S says of the value -/
theorem joinIf {b : Bool} {ta tb : TE} {σ : L2.St} {H : Hp} {Q : VK} (S : VK) (key : ∀ v H', S v H' → Q v H') (h1 : b = true → ∀ R : VK, (∀ v H', S v H' → R v H') → ta σ H R)
    (h2 : b = false → ∀ R : VK, (∀ v H', S v H' → R v H') → tb σ H R) : if b = true then ta σ H Q else tb σ H Q := by
  cases b
  · rw [if_neg Bool.false_ne_true]
    exact h2 rfl Q key
  · rw [if_pos rfl]
    exact h1 rfl Q key
theorem mod_pos {a m : Int} (h : 0 < m) : 0 ≤ a % m ∧ a % m < m := ⟨Int.emod_nonneg _ (by omega), Int.emod_lt_of_pos _ h⟩
theorem pow300 : ((10 : Int) ^ (60 : Int).toNat) ^ (5 : Int).toNat < 2 ^ 1000 := by decide +kernel
theorem pow300' : 0 < ((10 : Int) ^ (60 : Int).toNat) ^ (5 : Int).toNat := by decide +kernel
end Loc
namespace Loc
theorem bit_small (b : Bool) : -(2 ^ 64) < (if b = true then (1 : Int) else 0) ∧ (if b = true then (1 : Int) else 0) < 2 ^ 64 := by
  cases b <;> decide
theorem mul_bit {a m : Int} (h : 0 ≤ a ∧ a < m) (b : Bool) : 0 ≤ a * (if b = true then (1 : Int) else 0) ∧ a * (if b = true then (1 : Int) else 0) < m := by
  cases b
  · rw [if_neg Bool.false_ne_true, Int.mul_zero]
    omega
  · rw [if_pos rfl, Int.mul_one]
    exact h
end Loc
namespace Loc
theorem natAbs_lt {b : Int} {n : Nat} (h0 : 0 ≤ b) (h : b < 2 ^ n) : b.natAbs < 2 ^ n := by
  obtain ⟨m, rfl⟩ := Int.eq_ofNat_of_zero_le h0
  rw [← PySem.W.kbt_cast n] at h
  exact Int.ofNat_lt.mp h
theorem div_small {a b : Int} (h0 : 0 ≤ a) (h : 0 < b) : 0 ≤ a / b ∧ a / b ≤ a := ⟨Int.ediv_nonneg h0 (by omega), Int.ediv_le_self b h0⟩
/-- the five numbers that a draw is reckoned with -/
theorem prime_at {n : Int} (h : 0 ≤ n) : ∃ q : Int, L2.atI [L2.V.int 2147483647, .int 2147483629, .int 2147483587, .int 2147483579, .int 2147483563] (n % 5) = some (.int q) ∧ 0 < q ∧ q < 2147483648 := by
  have m := Int.emod_nonneg n (show (5 : Int) ≠ 0 by decide)
  have l := Int.emod_lt_of_pos n (show (0 : Int) < 5 by decide)
  generalize n % 5 = r at m l
  have c : r = 0 ∨ r = 1 ∨ r = 2 ∨ r = 3 ∨ r = 4 := by omega
  rcases c with rfl | rfl | rfl | rfl | rfl
  · exact ⟨2147483647, rfl, by decide, by decide⟩
  · exact ⟨2147483629, rfl, by decide, by decide⟩
  · exact ⟨2147483587, rfl, by decide, by decide⟩
  · exact ⟨2147483579, rfl, by decide, by decide⟩
  · exact ⟨2147483563, rfl, by decide, by decide⟩
/-- what stands under the third power -/
theorem base_small {mix c : Int} (h3 : 0 ≤ mix) (h4 : mix < 2305843009213693952) (h5 : 0 ≤ c) (h6 : c ≤ 1000000) : 0 ≤ mix + 99991 * c * c + 29 ∧ mix + 99991 * c * c + 29 < 2 ^ 64 := by
  have k1 : 0 ≤ c * c := Int.mul_nonneg h5 h5
  have k2 : c * c ≤ 1000000 * 1000000 := Int.mul_le_mul h6 h6 h5 (by decide)
  rw [Int.mul_assoc]
  omega
end Loc
namespace Loc
theorem small_pow {n : Nat} (h : n ≤ 1000) : (n : Int) < 2 ^ 1000 := Int.lt_of_le_of_lt (show (n : Int) ≤ 1000 by omega) (by decide +kernel)
end Loc
namespace Loc
open PySem PySem.Spec PyProof.Rows L2
theorem sameT {K : PySem.W.Frag} {H H' : Hp} {a : Addr} {xs : List V} (e : Same H H') (h : SqT K H a xs) : SqT K H' a xs := by
  rcases h with (h | ⟨o, h⟩) | h
  · exact .inl (.inl (e _ _ h))
  · exact .inl (.inr ⟨o, e _ _ h⟩)
  · exact .inr h
theorem sameN {H : Hp} {p : Addr} {o : HO} (h : H p = none) : Same H (upd H p o) := fun b x e => by rw [upd_ne (ne_of_none e h)]; exact e
/-- a new object is written again -/
theorem sameW {H H' : Hp} {p : Addr} {o : HO} (e : Same H H') (h : H p = none) : Same H (upd H' p o) := fun b x q => by rw [upd_ne (ne_of_none q h)]; exact e b x q
theorem Same.but {H H' : Hp} {p : Addr} (e : Same H H') : But p H H' := fun b o _ h => e b o h
theorem But.same {H H' : Hp} {p : Addr} (e : But p H H') (h : H p = none) : Same H H' := fun b o q => e b o (ne_of_none q h) q
/-- a new object is written again -/
theorem But.wr {p q : Addr} {H H' : Hp} {o : HO} (e : But p H H') (h : H q = none) : But p H (upd H' q o) := fun b x n r => by rw [upd_ne (ne_of_none r h)]; exact e b x n r
theorem small_take {α : Type} {l : List α} {i n : Nat} (h : l.length ≤ n) : (l.take i).length ≤ n := by
  rw [List.length_take]
  omega
theorem line5 {n : Nat} (h : n ≤ 100000) : n < sizeLine := small_line' h
end Loc
namespace Loc
open PySem PySem.Spec PyProof.Rows L2
/-- a list or a tuple -/
def SqA (K : PySem.W.Frag) (H : Hp) (a : Addr) (xs : List V) : Prop := SqL K H a xs ∨ SqT K H a xs
theorem SqA.same {K : PySem.W.Frag} {H H' : Hp} {a : Addr} {xs : List V} (h : SqA K H a xs) (e : Same H H') : SqA K H' a xs := h.imp e.seq (sameT e)
theorem SqA.ix {K : PySem.W.Frag} {H : Hp} {a : Addr} {xs : List V} {i : Int} {v : V} {Q : VK} (h : SqA K H a xs) (e : atI xs i = some v) (q : Q v H) : rIx K (.ref a) (.int i) H Q := by
  rcases h with h | h
  · exact .inl ⟨a, xs, i, v, rfl, rfl, h, e, q⟩
  · exact .inr (.inl ⟨a, xs, i, v, rfl, rfl, h, e, q⟩)
theorem half_pow (x t : Nat) : ((x / 2 ^ t : Nat) : Int) / 2 = ((x / 2 ^ (t + 1) : Nat) : Int) := by
  rw [Nat.pow_succ, ← Nat.div_div_eq_div_mul]
  omega
end Loc
namespace Loc
theorem get_of {α : Type} {l : List α} {i : Nat} (h : i < l.length) : ∃ x, l[i]? = some x := ⟨l[i], List.getElem?_eq_getElem h⟩
end Loc
namespace Loc
theorem take_more {α : Type} {l : List α} {i : Nat} {x : α} (h : l[i]? = some x) : l.take (i + 1) = l.take i ++ [x] := by
  rw [List.take_add_one, h]
  rfl
theorem int_congr {a b : Int} (h : a = b) : L2.V.int a = L2.V.int b := by rw [h]
end Loc
namespace Loc
open PySem PySem.Spec PyProof.Rows L2
/-- a value that is one of those that S tells -/
theorem anyE {te : TE} {σ : L2.St} {H : Hp} {Q : VK} (S : VK) (key : ∀ v H', S v H' → Q v H') (h : ∀ R : VK, (∀ v H', S v H' → R v H') → te σ H R) : te σ H Q := h Q key
theorem anyT {t : TT} {σ : L2.St} {H : Hp} {Q : Bool → Hp → Prop} (S : Bool → Hp → Prop) (key : ∀ b H', S b H' → Q b H') (h : ∀ R : Bool → Hp → Prop, (∀ b H', S b H' → R b H') → t σ H R) : t σ H Q := h Q key
theorem joinS {b : Bool} {t u : TS} {D : Ends} {σ : L2.St} {H : Hp} (S : L2.St → Hp → Prop) (key : ∀ σ' H', S σ' H' → D.nx σ' H')
    (h1 : b = true → ∀ N : L2.St → Hp → Prop, (∀ σ' H', S σ' H' → N σ' H') → t { D with nx := N } σ H)
    (h2 : b = false → ∀ N : L2.St → Hp → Prop, (∀ σ' H', S σ' H' → N σ' H') → u { D with nx := N } σ H) : if b = true then t D σ H else u D σ H := by
  cases b
  · rw [if_neg Bool.false_ne_true]
    exact h2 rfl D.nx key
  · rw [if_pos rfl]
    exact h1 rfl D.nx key
theorem But.free {p q : Addr} {H H' : Hp} {o : HO} (e : But p H H') (hp : H' p = some o) (h : H' q = none) : H q = none := by
  cases z : H q with
  | none => rfl
  | some x =>
    have n : q ≠ p := fun k => by rw [k, hp] at h; cases h
    rw [e q x n z] at h
    cases h
theorem Pot.ex {H : Hp} {p : Addr} {c : Nat} (h : Pot H p c) : ∃ o, H p = some o := let ⟨o, e, _⟩ := h; ⟨o, e⟩
theorem But.freeP {p q : Addr} {H H' : Hp} {c : Nat} (e : But p H H') (hp : Pot H' p c) (h : H' q = none) : H q = none := let ⟨_, k⟩ := hp.ex; e.free k h
theorem Pot.ne {H : Hp} {p q : Addr} {c : Nat} (hp : Pot H p c) (h : H q = none) : q ≠ p := fun z => by
  obtain ⟨o, e⟩ := hp.ex
  rw [z, e] at h
  cases h
/-! lists of ints as data -/
theorem canLay_ints : ∀ ns : List Int, PyData.canLayAll0 (ns.map PyData.int) = true
  | [] => rfl
  | n :: r => by
    show (PyData.canLay0 (.int n) && PyData.canLayAll0 (r.map PyData.int)) = true
    rw [canLay_ints r]
    rfl
theorem depth_ints : ∀ ns : List Int, PyData.depthAll (ns.map PyData.int) ≤ 1
  | [] => by simp [PyData.depthAll]
  | n :: r => by
    have := depth_ints r
    simp only [List.map_cons, PyData.depthAll, PyData.depth]
    omega
theorem shaped_ints (ns : List Int) : SeqAt.shaped (.list (ns.map PyData.int)) = true ∧ SeqAt.shaped (.tuple (ns.map PyData.int)) = true := by
  have d := depth_ints ns
  constructor
  · unfold SeqAt.shaped
    rw [Bool.and_eq_true]
    exact ⟨by simpa [PyData.canLay0] using canLay_ints ns, decide_eq_true (by simp only [PyData.depth]; omega)⟩
  · unfold SeqAt.shaped
    rw [Bool.and_eq_true]
    exact ⟨by simpa [PyData.canLay0] using canLay_ints ns, decide_eq_true (by simp only [PyData.depth]; omega)⟩
/-- xs == [], xs of ints -/
theorem eqv_empty (ns : List Int) : PyData.eqv (.list (ns.map PyData.int)) (.list []) = ns.isEmpty := by
  cases ns <;> simp [PyData.eqv, PyData.eqvAll]
theorem eqv_emptyT (ns : List Int) : PyData.eqv (.tuple (ns.map PyData.int)) (.tuple []) = ns.isEmpty := by
  cases ns <;> simp [PyData.eqv, PyData.eqvAll]
end Loc
namespace Loc
theorem pow_of {d : Int} {n : Nat} (h0 : 0 ≤ d) (h : d ≤ n) : ∃ m : Nat, (1 : Int) * 2 ^ d.toNat = (m : Int) ∧ 0 < m ∧ m ≤ 2 ^ n := by
  refine ⟨2 ^ d.toNat, ?_, Nat.two_pow_pos _, Nat.pow_le_pow_right (by decide) (by omega)⟩
  rw [Int.one_mul, PySem.W.kbt_cast]
end Loc
namespace Loc
open PySem PySem.Spec PyProof.Rows L2
theorem cb1_any {r : List V → Hp → VK → Prop} {te : TE} {σ : L2.St} {H : Hp} {Q : VK} (S : VK) (key : ∀ v H', S v H' → r [v] H' Q) (h : ∀ R : VK, (∀ v H', S v H' → R v H') → te σ H R) : tCB r (tCons te tNil) σ H Q := h _ key
theorem cons_any {te : TE} {tr : TA} {σ : L2.St} {H : Hp} {Q : List V → Hp → Prop} (S : VK) (key : ∀ v H', S v H' → tr σ H' fun vs H2 => Q (v :: vs) H2) (h : ∀ R : VK, (∀ v H', S v H' → R v H') → te σ H R) : tCons te tr σ H Q := h _ key
theorem if_any {T : TT} {ta tb : TE} {σ : L2.St} {H : Hp} {Q : VK} (S : Bool → Hp → Prop) (key : ∀ b H', S b H' → if b = true then ta σ H' Q else tb σ H' Q) (h : ∀ R : Bool → Hp → Prop, (∀ b H', S b H' → R b H') → T σ H R) : tIf T ta tb σ H Q := h _ key
theorem ifs_any {T : TT} {t u : TS} {D : Ends} {σ : L2.St} {H : Hp} (S : Bool → Hp → Prop) (key : ∀ b H', S b H' → if b = true then t D σ H' else u D σ H') (h : ∀ R : Bool → Hp → Prop, (∀ b H', S b H' → R b H') → T σ H R) : tIfS T t u D σ H := h _ key
end Loc
namespace Loc
open PySem PySem.Spec PyProof.Rows L2
theorem cb1_var {r : List V → Hp → VK → Prop} {i : Nat} {σ : L2.St} {H : Hp} {Q : VK} (v : V) (h : σ[i]? = some (some v)) (k : r [v] H Q) : tCB r (tCons (tVar i) tNil) σ H Q := ⟨v, h, k⟩
end Loc

set_option Elab.async false
set_option linter.all false
set_option maxRecDepth 100000
namespace Loc
open PySem PySem.Spec PyProof.Rows L2 RZ
/-! ### repr of a tuple of ints -/
theorem shown_len {n : Nat} (h : n < 10 ^ 70) : (PyData.shown (.int (n : Int))).length ≤ 70 := by
  rw [PyData.shown_int]
  refine toString_length_le (Int.natCast_nonneg _) (by decide) ?_
  have := Int.ofNat_lt.mpr h
  exact Int.lt_of_lt_of_le this (by decide +kernel)
theorem shown_sum : ∀ ns : List Nat, (∀ n ∈ ns, n < 10 ^ 70) → ((PyData.shownAll ((ns.map fun n : Nat => (n : Int)).map PyData.int)).map (·.length)).sum ≤ 70 * ns.length
  | [], _ => by simp [PyData.shownAll]
  | n :: r, h => by
    have h1 := shown_len (h n List.mem_cons_self)
    have h2 := shown_sum r fun m hm => h m (List.mem_cons_of_mem _ hm)
    simp only [List.map_cons, PyData.shownAll, List.sum_cons, List.length_cons]
    omega
theorem log_small {n : Nat} (h : n < 10 ^ 70) : ((n : Int)).natAbs.log2 < 1920 := by
  rw [Int.natAbs_natCast]
  by_cases z : n = 0
  · subst z
    decide
  · exact (Nat.log2_lt z).mpr (Nat.lt_trans h (by decide +kernel))
theorem noDict_ints : ∀ ns : List Int, PyData.hasDictAll (ns.map PyData.int) = false
  | [] => by simp [PyData.hasDictAll]
  | n :: r => by simp [PyData.hasDictAll, PyData.hasDict, noDict_ints r]
/-- what repr asks of a tuple of small numbers -/
theorem rep_ints {K : PySem.W.Frag} {H : Hp} {a : Addr} {ns : List Nat} {Q : VK} (hS : SqT K H a (ns.map fun n : Nat => V.int (n : Int))) (h : ∀ n ∈ ns, n < 10 ^ 70) (hl : ns.length ≤ 100000)
    (q : Q (.str (PyData.shown (.tuple ((ns.map fun n : Nat => (n : Int)).map PyData.int)))) H) : rRep K [.ref a] H Q := by
  have dp := depth_ints (ns.map fun n : Nat => (n : Int))
  have sm := shown_sum ns h
  have e : (ns.map fun n : Nat => V.int (n : Int)) = (ns.map fun n : Nat => (n : Int)).map V.int := by
    rw [List.map_map]
    rfl
  rw [e] at hS
  refine ⟨a, _, rfl, .tup hS (DpAll.ints _), ?_, ?_, ?_, ?_, q⟩
  · show PyData.showableAll _ = true
    refine PyData.showableAll_ints _ fun n hn => ?_
    obtain ⟨m, hm, rfl⟩ := List.mem_map.mp hn
    exact log_small (h m hm)
  · show PyData.hasDictAll _ = false
    exact noDict_ints _
  · simp only [PyData.depth]
    omega
  · show (tupleText _).length ≤ sizeLine
    have t := tupleText_len_le (PyData.shownAll ((ns.map fun n : Nat => (n : Int)).map PyData.int))
    rw [PyData.shownAll_length, List.length_map, List.length_map] at t
    rw [sizeLine_eq]
    omega
/-! ### [.. for x, y in zip(t, u)], t and u tuples -/
theorem lc_zipT {K : PySem.W.Frag} {a b : Addr} {xs ys : List V} {g : TG} {tt : TT} {te : TE} {vs : List Nat} {σ : L2.St} {H1 : Hp} {D : Addr} {Qd : Hp → Prop} (Pv : Nat → Hp → Prop)
    (h0 : Pv 0 (upd H1 D (.lst []))) (hl : ∀ i H, Pv i H → SqT K H a xs ∧ SqT K H b ys)
    (hs : ∀ i x y T H, xs[i]? = some x → ys[i]? = some y → Pv i H → H T = none → g (.ref T) (wipe σ vs) (upd H T (.tup [x, y])) fun σ2 H2 => wipe σ2 vs = wipe σ vs ∧ tt σ2 H2 fun k H3 =>
      if k = true then te σ2 H3 fun z H4 => ∃ acc, H4 D = some (.lst acc) ∧ acc.length < sizeLine ∧ Pv (i + 1) (upd H4 D (.lst (acc ++ [z]))) else Pv (i + 1) H3)
    (hd : ∀ i H, Pv i H → (xs.length ≤ i ∨ ys.length ≤ i) → Qd H) :
    ∃ W : Nat → Nat → Hp → Prop, (∃ m, W 0 m (upd H1 D (.lst []))) ∧ ∀ i m H, W i m H →
      ((ItzT K a b).stop i H ∧ Qd H) ∨ ((ItzT K a b).go i H ∧ ∃ Nx : Hp → Prop, (∀ H', Nx H' → ∃ m', m' < m ∧ W (i + 1) m' H') ∧ ∀ x H', (ItzT K a b).yld i H x H' → g x (wipe σ vs) H' fun σ2 H2 => wipe σ2 vs = wipe σ vs ∧ tt σ2 H2 fun k H3 =>
        if k = true then te σ2 H3 fun y H4 => ∃ acc, H4 D = some (.lst acc) ∧ acc.length < sizeLine ∧ Nx (upd H4 D (.lst (acc ++ [y]))) else Nx H3) := by
  refine ⟨fun i m H => m = xs.length - i ∧ Pv i H, ⟨_, rfl, h0⟩, ?_⟩
  rintro i m H ⟨rfl, p⟩
  obtain ⟨k1, k2⟩ := hl i H p
  by_cases c : i < xs.length ∧ i < ys.length
  · obtain ⟨x, gx⟩ := get_of c.1
    obtain ⟨y, gy⟩ := get_of c.2
    refine .inr ⟨⟨xs, ys, x, y, k1, k2, gx, gy⟩, Pv (i + 1), fun H' p' => ⟨xs.length - (i + 1), by omega, rfl, p'⟩, fun z H' hy => ?_⟩
    obtain ⟨T, x', y', rfl, hT, rfl, f1, f2⟩ := hy
    have ex : x' = x := Option.some.inj ((f1 _ k1).symm.trans gx)
    have ey : y' = y := Option.some.inj ((f2 _ k2).symm.trans gy)
    subst ex
    subst ey
    exact hs i _ _ T H gx gy p hT
  · have c' : xs.length ≤ i ∨ ys.length ≤ i := by omega
    exact .inl ⟨⟨xs, ys, k1, k2, c'⟩, hd i H p c'⟩
end Loc

set_option Elab.async false
set_option linter.all false
set_option maxRecDepth 100000
namespace Loc
open PySem PySem.Spec PyProof.Rows L2
/-! ### nodes -/
inductive Nd where
  | el (n : Nat)
  | run (b : Nd) (c : Nat)
  | blk (ps : List Nd)
mutual
def dat : Nd → PyData
  | .el n => .int n
  | .run b c => .tuple [.str "run", dat b, .int c]
  | .blk ps => .tuple [.str "block", .tuple (datAll ps)]
def datAll : List Nd → List PyData
  | [] => []
  | n :: r => dat n :: datAll r
end
def Nd.isRun : Nd → Bool
  | .run _ _ => true
  | _ => false
def Nd.isBlk : Nd → Bool
  | .blk _ => true
  | _ => false
def Nd.base : Nd → Nd
  | .run b _ => b
  | n => n
/-- neighbours with unlike bases -/
def Unb : List Nd → Prop
  | a :: b :: r => a.base ≠ b.base ∧ Unb (b :: r)
  | _ => True
mutual
/-- a node of this level -/
def Ok : Nd → Nat → Prop
  | .el n, l => l = 0 ∧ n ≤ 10 ^ 9
  | .run b c, l => 2 ≤ c ∧ c ≤ 10 ^ 60 ∧ b.isRun = false ∧ Ok b l
  | .blk ps, l => 1 ≤ l ∧ 2 ≤ ps.length ∧ ps.length ≤ 3 ∧ OkAll ps (l - 1) ∧ Unb ps
def OkAll : List Nd → Nat → Prop
  | [], _ => True
  | n :: r, l => Ok n l ∧ OkAll r l
end
theorem OkAll.mem : ∀ {ps : List Nd} {l : Nat}, OkAll ps l → ∀ n ∈ ps, Ok n l
  | [], _, _, n, h => nomatch h
  | a :: r, l, h, n, hn => by
    unfold OkAll at h
    rcases List.mem_cons.mp hn with rfl | hn
    · exact h.1
    · exact OkAll.mem h.2 n hn
theorem OkAll.of : ∀ {ps : List Nd} {l : Nat}, (∀ n ∈ ps, Ok n l) → OkAll ps l
  | [], _, _ => by unfold OkAll; trivial
  | a :: r, l, h => by
    unfold OkAll
    exact ⟨h a List.mem_cons_self, OkAll.of fun n hn => h n (List.mem_cons_of_mem _ hn)⟩
theorem datAll_map : ∀ ps : List Nd, datAll ps = ps.map dat
  | [] => by unfold datAll; rfl
  | n :: r => by
    unfold datAll
    rw [datAll_map r]
    rfl
theorem datAll_length (ps : List Nd) : (datAll ps).length = ps.length := by rw [datAll_map, List.length_map]
theorem unlike_sorts : (Str.ofString "run" == Str.ofString "block") = false ∧ (Str.ofString "block" == Str.ofString "run") = false := by
  constructor <;> decide +kernel
theorem eqv_rb (x y z : PyData) : PyData.eqv (.tuple [.str "run", x, y]) (.tuple [.str "block", z]) = false := by
  simp only [PyData.eqv, PyData.eqvAll, unlike_sorts.1, Bool.false_and]
theorem eqv_br (x y z : PyData) : PyData.eqv (.tuple [.str "block", z]) (.tuple [.str "run", x, y]) = false := by
  simp only [PyData.eqv, PyData.eqvAll, unlike_sorts.2, Bool.false_and]
mutual
theorem eqv_dat : ∀ a b : Nd, PyData.eqv (dat a) (dat b) = true ↔ a = b
  | .el n, .el m => by
    simp only [dat, PyData.eqv, beq_iff_eq, Nd.el.injEq]
    omega
  | .el _, .run _ _ => by simp [dat, PyData.eqv]
  | .el _, .blk _ => by simp [dat, PyData.eqv]
  | .run _ _, .el _ => by simp [dat, PyData.eqv]
  | .blk _, .el _ => by simp [dat, PyData.eqv]
  | .run a c, .run b d => by
    have ih := eqv_dat a b
    simp only [dat, PyData.eqv, PyData.eqvAll, beq_self_eq_true, Bool.true_and, Bool.and_true, Bool.and_eq_true, beq_iff_eq, Nd.run.injEq, ih]
    constructor
    · rintro ⟨h1, h2⟩
      exact ⟨h1, by omega⟩
    · rintro ⟨h1, h2⟩
      exact ⟨h1, by omega⟩
  | .run _ _, .blk _ => by simp [dat, eqv_rb]
  | .blk _, .run _ _ => by simp [dat, eqv_br]
  | .blk ps, .blk qs => by
    have ih := eqv_datAll ps qs
    simp only [dat, PyData.eqv, PyData.eqvAll, beq_self_eq_true, Bool.true_and, Bool.and_true, Nd.blk.injEq, ih]
theorem eqv_datAll : ∀ ps qs : List Nd, PyData.eqvAll (datAll ps) (datAll qs) = true ↔ ps = qs
  | [], [] => by simp [datAll, PyData.eqvAll]
  | [], _ :: _ => by simp [datAll, PyData.eqvAll]
  | _ :: _, [] => by simp [datAll, PyData.eqvAll]
  | a :: r, b :: q => by
    have h1 := eqv_dat a b
    have h2 := eqv_datAll r q
    simp only [datAll, PyData.eqvAll, Bool.and_eq_true, h1, h2, List.cons.injEq]
end
theorem eqv_no {a b : Nd} (h : a ≠ b) : PyData.eqv (dat a) (dat b) = false := by
  cases e : PyData.eqv (dat a) (dat b) with
  | false => rfl
  | true => exact absurd ((eqv_dat a b).mp e) h
theorem eqv_yes {a b : Nd} (h : a = b) : PyData.eqv (dat a) (dat b) = true := (eqv_dat a b).mpr h
theorem str_run_ok : PyData.canLay0 (.str "run") = true ∧ PyData.canLay0 (.str "block") = true := by
  constructor <;> decide +kernel
mutual
theorem canLay_dat : ∀ a : Nd, PyData.canLay0 (dat a) = true
  | .el n => by simp [dat, PyData.canLay0]
  | .run b c => by
    have h := canLay_dat b
    simp only [dat, PyData.canLay0, PyData.canLayAll0, h, str_run_ok.1, Bool.and_true]
    exact str_run_ok.1
  | .blk ps => by
    have h := canLay_datAll ps
    simp only [dat, PyData.canLay0, PyData.canLayAll0, h, Bool.and_true]
    exact str_run_ok.2
theorem canLay_datAll : ∀ ps : List Nd, PyData.canLayAll0 (datAll ps) = true
  | [] => by simp [datAll, PyData.canLayAll0]
  | a :: r => by
    have h1 := canLay_dat a
    have h2 := canLay_datAll r
    simp only [datAll, PyData.canLayAll0, h1, h2, Bool.and_true]
end
mutual
theorem depth_dat : ∀ (a : Nd) (l : Nat), Ok a l → (dat a).depth ≤ 3 * l + (if a.isRun then 1 else 0)
  | .el n, l, h => by simp [dat, PyData.depth]
  | .run b c, l, h => by
    unfold Ok at h
    have ih := depth_dat b l h.2.2.2
    rw [h.2.2.1] at ih
    simp only [dat, PyData.depth, PyData.depthAll, Nd.isRun, if_true]
    simp at ih
    omega
  | .blk ps, l, h => by
    unfold Ok at h
    have ih := depth_datAll ps (l - 1) h.2.2.2.1
    simp only [dat, PyData.depth, PyData.depthAll, Nd.isRun]
    simp
    omega
theorem depth_datAll : ∀ (ps : List Nd) (l : Nat), OkAll ps l → PyData.depthAll (datAll ps) ≤ 3 * l + 1
  | [], l, _ => by simp [datAll, PyData.depthAll]
  | a :: r, l, h => by
    unfold OkAll at h
    have h1 := depth_dat a l h.1
    have h2 := depth_datAll r l h.2
    simp only [datAll, PyData.depthAll]
    split at h1 <;> omega
end
theorem depth_le {a : Nd} {l : Nat} (h : Ok a l) : (dat a).depth ≤ 3 * l + 1 := by
  have := depth_dat a l h
  split at this <;> omega
theorem shaped_dat {a : Nd} {l : Nat} (h : Ok a l) (hl : l ≤ 20) : SeqAt.shaped (dat a) = true := by
  have d := depth_le h
  unfold SeqAt.shaped
  rw [Bool.and_eq_true]
  exact ⟨canLay_dat a, decide_eq_true (by omega)⟩
theorem shaped_all {ps : List Nd} {l : Nat} (h : OkAll ps l) (hl : l ≤ 20) : SeqAt.shaped (.list (datAll ps)) = true ∧ SeqAt.shaped (.tuple (datAll ps)) = true := by
  have d := depth_datAll ps l h
  unfold SeqAt.shaped
  simp only [Bool.and_eq_true]
  exact ⟨⟨by simpa [PyData.canLay0] using canLay_datAll ps, decide_eq_true (by simp only [PyData.depth]; omega)⟩, by simpa [PyData.canLay0] using canLay_datAll ps, decide_eq_true (by simp only [PyData.depth]; omega)⟩
/-! ### nodes that a heap bears -/
abbrev NdV (K : PySem.W.Frag) (H : Hp) (v : V) (a : Nd) : Prop := Dp K H v (dat a)
abbrev NdsV (K : PySem.W.Frag) (H : Hp) (vs : List V) (ps : List Nd) : Prop := DpAll K H vs (datAll ps)
section
variable {K : PySem.W.Frag} {H H' : Hp}
theorem NdV.el {v : V} {n : Nat} (h : NdV K H v (.el n)) : v = .int n := by
  unfold NdV dat at h
  cases h
  rfl
theorem NdV.run {v : V} {b : Nd} {c : Nat} (h : NdV K H v (.run b c)) : ∃ a v2, v = .ref a ∧ SqT K H a [.str "run", v2, .int c] ∧ NdV K H v2 b := by
  unfold NdV dat at h
  cases h with
  | tup h1 h2 =>
    cases h2 with
    | cons k1 h2 =>
      cases h2 with
      | cons k2 h2 =>
        cases h2 with
        | cons k3 h2 =>
          cases h2
          cases k1
          cases k3
          exact ⟨_, _, rfl, h1, k2⟩
theorem NdV.blk {v : V} {ps : List Nd} (h : NdV K H v (.blk ps)) : ∃ a b vs, v = .ref a ∧ SqT K H a [.str "block", .ref b] ∧ SqT K H b vs ∧ NdsV K H vs ps := by
  unfold NdV dat at h
  cases h with
  | tup h1 h2 =>
    cases h2 with
    | cons k1 h2 =>
      cases h2 with
      | cons k2 h2 =>
        cases h2
        cases k1
        cases k2 with
        | tup k3 k4 => exact ⟨_, _, _, rfl, h1, k3, k4⟩
theorem NdV.ofEl (n : Nat) : NdV K H (.int n) (.el n) := by
  unfold NdV dat
  exact .int _
theorem NdV.ofRun {a : Addr} {v2 : V} {b : Nd} {c : Nat} (h : SqT K H a [.str "run", v2, .int c]) (k : NdV K H v2 b) : NdV K H (.ref a) (.run b c) := by
  unfold NdV dat
  exact .tup h (.cons (.str _) (.cons k (.cons (.int _) .nil)))
theorem NdV.ofBlk {a b : Addr} {vs : List V} {ps : List Nd} (h : SqT K H a [.str "block", .ref b]) (k : SqT K H b vs) (q : NdsV K H vs ps) : NdV K H (.ref a) (.blk ps) := by
  unfold NdV dat
  exact .tup h (.cons (.str _) (.cons (.tup k q) .nil))
theorem NdsV.nil : NdsV K H [] [] := by
  unfold NdsV datAll
  exact .nil
theorem NdsV.cons {v : V} {vs : List V} {a : Nd} {ps : List Nd} (h : NdV K H v a) (k : NdsV K H vs ps) : NdsV K H (v :: vs) (a :: ps) := by
  unfold NdsV datAll
  exact .cons h k
theorem NdsV.inv {vs : List V} {a : Nd} {ps : List Nd} (h : NdsV K H vs (a :: ps)) : ∃ v r, vs = v :: r ∧ NdV K H v a ∧ NdsV K H r ps := by
  unfold NdsV datAll at h
  cases h with
  | cons h1 h2 => exact ⟨_, _, rfl, h1, h2⟩
theorem NdsV.inv0 {vs : List V} (h : NdsV K H vs []) : vs = [] := by
  unfold NdsV datAll at h
  cases h
  rfl
theorem NdsV.len : ∀ {ps : List Nd} {vs : List V}, NdsV K H vs ps → vs.length = ps.length
  | [], vs, h => by rw [h.inv0]; rfl
  | a :: r, vs, h => by
    obtain ⟨v, q, rfl, _, k⟩ := h.inv
    rw [List.length_cons, List.length_cons, NdsV.len k]
theorem NdsV.get : ∀ {ps : List Nd} {vs : List V} {i : Nat} {v : V}, NdsV K H vs ps → vs[i]? = some v → ∃ a, ps[i]? = some a ∧ NdV K H v a
  | [], vs, i, v, h, e => by rw [h.inv0] at e; simp at e
  | a :: r, vs, i, v, h, e => by
    obtain ⟨u, q, rfl, k1, k⟩ := h.inv
    cases i with
    | zero =>
      simp at e
      subst e
      exact ⟨a, rfl, k1⟩
    | succ i =>
      obtain ⟨b, h1, h2⟩ := NdsV.get (i := i) k (by simpa using e)
      exact ⟨b, by simpa using h1, h2⟩
theorem NdsV.at {ps : List Nd} {vs : List V} {i : Nat} {a : Nd} (h : NdsV K H vs ps) (e : ps[i]? = some a) : ∃ v, vs[i]? = some v ∧ NdV K H v a := by
  have hi := (List.getElem?_eq_some_iff.mp e).1
  obtain ⟨v, hv⟩ := get_of (l := vs) (i := i) (by rw [h.len]; exact hi)
  obtain ⟨b, h1, h2⟩ := h.get hv
  rw [e] at h1
  cases h1
  exact ⟨v, hv, h2⟩
theorem NdsV.app : ∀ {ps qs : List Nd} {vs us : List V}, NdsV K H vs ps → NdsV K H us qs → NdsV K H (vs ++ us) (ps ++ qs)
  | [], qs, vs, us, h, k => by rw [h.inv0]; exact k
  | a :: r, qs, vs, us, h, k => by
    obtain ⟨v, q, rfl, k1, k2⟩ := h.inv
    exact NdsV.cons k1 (NdsV.app k2 k)
theorem NdsV.one {v : V} {a : Nd} (h : NdV K H v a) : NdsV K H [v] [a] := NdsV.cons h NdsV.nil
theorem NdsV.last {ps : List Nd} {vs : List V} {z : Nd} (h : NdsV K H vs (ps ++ [z])) : ∃ u, atI vs (-1) = some u ∧ NdV K H u z := by
  have hl := h.len
  rw [List.length_append] at hl
  simp at hl
  rcases List.eq_nil_or_concat vs with rfl | ⟨init, u, rfl⟩
  · simp at hl
  · rw [List.concat_eq_append] at *
    refine ⟨u, atI_last _ _, ?_⟩
    have hi : init.length = ps.length := by simpa using hl
    obtain ⟨a, h1, h2⟩ := h.get (i := init.length) (v := u) (by rw [List.getElem?_append_right (Nat.le_refl _)]; simp)
    rw [hi, List.getElem?_append_right (Nat.le_refl _)] at h1
    have : a = z := by simpa using h1.symm
    rw [← this]
    exact h2
/-- node data stand while tuples stand -/
def Tups (K : PySem.W.Frag) (H H' : Hp) : Prop := ∀ a xs, SqT K H a xs → SqT K H' a xs
theorem Tups.of (e : Same H H') : Tups K H H' := fun _ _ h => sameT e h
theorem Tups.trans {H2 : Hp} (e : Tups K H H') (k : Tups K H' H2) : Tups K H H2 := fun a xs h => k a xs (e a xs h)
theorem Tups.refl : Tups K H H := fun _ _ h => h
theorem But.tups {p : Addr} {ys : List V} (e : But p H H') (h : H p = some (.lst ys)) : Tups K H H' := fun _ _ k => e.sqt h k
theorem But.tupsP {p : Addr} {c : Nat} (e : But p H H') (h : Pot H p c) : Tups K H H' := let ⟨_, k⟩ := h.ls; e.tups k
mutual
theorem NdV.up (e : Tups K H H') : ∀ {a : Nd} {v : V}, NdV K H v a → NdV K H' v a
  | .el n, v, h => by rw [h.el]; exact .ofEl n
  | .run b c, v, h => by
    obtain ⟨a, v2, rfl, h1, h2⟩ := h.run
    exact .ofRun (e _ _ h1) (NdV.up e h2)
  | .blk ps, v, h => by
    obtain ⟨a, b, vs, rfl, h1, h2, h3⟩ := h.blk
    exact .ofBlk (e _ _ h1) (e _ _ h2) (NdsV.up e h3)
theorem NdsV.up (e : Tups K H H') : ∀ {ps : List Nd} {vs : List V}, NdsV K H vs ps → NdsV K H' vs ps
  | [], vs, h => by rw [h.inv0]; exact .nil
  | a :: r, vs, h => by
    obtain ⟨v, q, rfl, k1, k2⟩ := h.inv
    exact NdsV.cons (NdV.up e k1) (NdsV.up e k2)
end
theorem SqT.ty {a : Addr} {xs : List V} (h : SqT K H a xs) : TyX K H (.ref a) (.type "tuple") := by
  rcases h with (h | ⟨o, h⟩) | ⟨o, its, n, h1, h2, _⟩
  · exact .base (.tup h)
  · exact .fTuple h
  · exact .kTuple h1 h2
end
end Loc

set_option Elab.async false
set_option linter.all false
set_option maxRecDepth 100000
namespace Loc
open PySem PySem.Spec PyProof.Rows L2
def Smalls (B : Nat) (xs : List V) : Prop := ∀ x ∈ xs, ∃ n : Nat, x = .int n ∧ n ≤ B
theorem Smalls.nil {B : Nat} : Smalls B [] := fun x h => nomatch h
theorem Smalls.cons {B n : Nat} {x : V} {xs : List V} (e : x = .int n) (h : n ≤ B) (t : Smalls B xs) : Smalls B (x :: xs) := fun y hy => by
  rcases List.mem_cons.mp hy with rfl | hy
  · exact ⟨n, e, h⟩
  · exact t y hy
theorem Smalls.at {B : Nat} {xs : List V} {j : Nat} {x : V} (s : Smalls B xs) (h : xs[j]? = some x) : ∃ n : Nat, x = .int n ∧ n ≤ B := s x (List.mem_of_getElem? h)
/-! the two nodes of a level that are at hand -/
def tw : Nat → Nd × Nd
  | 0 => (.el 5, .el 6)
  | l + 1 => (.blk [(tw l).1, (tw l).2], .blk [(tw l).2, (tw l).1])
theorem tw_ok : ∀ l : Nat, Ok (tw l).1 l ∧ Ok (tw l).2 l ∧ (tw l).1 ≠ (tw l).2 ∧ (tw l).1.isRun = false ∧ (tw l).2.isRun = false
  | 0 => by
    refine ⟨?_, ?_, ?_, rfl, rfl⟩
    · unfold tw Ok; exact ⟨rfl, by decide⟩
    · unfold tw Ok; exact ⟨rfl, by decide⟩
    · unfold tw; intro h; injection h with h; exact absurd h (by decide)
  | l + 1 => by
    obtain ⟨h1, h2, h3, h4, h5⟩ := tw_ok l
    have b1 : (tw l).1.base = (tw l).1 := by
      cases e : (tw l).1 with
      | run b c => rw [e] at h4; cases h4
      | el n => rfl
      | blk ps => rfl
    have b2 : (tw l).2.base = (tw l).2 := by
      cases e : (tw l).2 with
      | run b c => rw [e] at h5; cases h5
      | el n => rfl
      | blk ps => rfl
    refine ⟨?_, ?_, ?_, rfl, rfl⟩
    · show Ok (.blk [(tw l).1, (tw l).2]) (l + 1)
      unfold Ok
      exact ⟨by omega, Nat.le_refl 2, (show 2 ≤ 3 from by decide), OkAll.of (fun n hn => by
        rcases List.mem_cons.mp hn with rfl | hn
        · exact h1
        · rw [List.mem_singleton.mp hn]; exact h2), ⟨by rw [b1, b2]; exact h3, trivial⟩⟩
    · show Ok (.blk [(tw l).2, (tw l).1]) (l + 1)
      unfold Ok
      exact ⟨by omega, Nat.le_refl 2, (show 2 ≤ 3 from by decide), OkAll.of (fun n hn => by
        rcases List.mem_cons.mp hn with rfl | hn
        · exact h2
        · rw [List.mem_singleton.mp hn]; exact h1), ⟨by rw [b1, b2]; exact h3.symm, trivial⟩⟩
    · show Nd.blk [(tw l).1, (tw l).2] ≠ Nd.blk [(tw l).2, (tw l).1]
      intro h
      injection h with h
      injection h with h
      exact h3 h
theorem base_of_no {n : Nd} (h : n.isRun = false) : n.base = n := by
  cases n with
  | run b c => cases h
  | el n => rfl
  | blk ps => rfl
theorem Ok.base {n : Nd} {l : Nat} (h : Ok n l) : Ok n.base l ∧ n.base.isRun = false := by
  cases n with
  | run b c =>
    unfold Ok at h
    exact ⟨h.2.2.2, h.2.2.1⟩
  | el n => exact ⟨h, rfl⟩
  | blk ps => exact ⟨h, rfl⟩
theorem unb_app : ∀ {ns : List Nd} {m : Nd}, Unb ns → (∀ x, ns.getLast? = some x → x.base ≠ m.base) → Unb (ns ++ [m])
  | [], _, _, _ => trivial
  | [a], m, _, h => ⟨h a rfl, trivial⟩
  | a :: b :: r, m, u, h => ⟨u.1, unb_app (ns := b :: r) u.2 fun x e => h x (by rw [List.getLast?_cons_cons]; exact e)⟩
/-- draws for one node of a level -/
def cost : Nat → Nat
  | 0 => 8
  | l + 1 => 4 * cost l
theorem cost_pos : ∀ l : Nat, 8 ≤ cost l
  | 0 => Nat.le_refl _
  | l + 1 => by
    have := cost_pos l
    unfold cost
    omega
theorem eqv_emptyN (ns : List Nd) : PyData.eqv (.list (datAll ns)) (.list []) = ns.isEmpty := by
  cases ns <;> simp [PyData.eqv, PyData.eqvAll, datAll]
theorem shaped_nil : SeqAt.shaped (.list []) = true := (shaped_ints []).1

def spGround (K : PySem.W.Frag) : Sp := fun vs H Q _ => ∃ v n, vs = [v] ∧ NdV K H v n ∧ ∀ v', NdV K H v' n.base → Q v' H
def spLeaf (K : PySem.W.Frag) : Sp := fun vs H Q _ => ∃ p c, vs = [.ref p] ∧ Pot H p c ∧ c < 900000 ∧ ∀ v n H', But p H H' → Pot H' p (c + 6) → NdV K H' v n → Ok n 0 → Q v H'
def spTwins (K : PySem.W.Frag) (m : Nat) : Sp := fun vs H Q _ => ∃ (z : Int) (l : Nat), vs = [.int z] ∧ z = l ∧ l < m ∧
  ∀ H' a v1 v2, Same H H' → H' a = some (.tup [v1, v2]) → NdV K H' v1 (tw l).1 → NdV K H' v2 (tw l).2 → Q (.ref a) H'
def spUnlike (K : PySem.W.Frag) (m : Nat) : Sp := fun vs H Q _ => ∃ (v : V) (n : Nd) (l : Nat), vs = [v, .int l] ∧ l < m ∧ l ≤ 20 ∧ NdV K H v n ∧ Ok n l ∧
  ∀ H' v' n', Same H H' → NdV K H' v' n' → Ok n' l → n'.base ≠ n.base → Q v' H'
def spRow (K : PySem.W.Frag) (m : Nat) : Sp := fun vs H Q _ => ∃ (p : Addr) (z : Int) (l many c : Nat), vs = [.ref p, .int z, .int many] ∧ z = l ∧ l < m ∧ l ≤ 20 ∧ many ≤ 10 ∧ Pot H p c ∧ c + 20 * cost l < 900000 ∧
  ∀ H' a vs' ns, But p H H' → H a = none → H' a = some (.lst vs') → NdsV K H' vs' ns → OkAll ns l → Unb ns → ns.length = many → Pot H' p (c + many * cost l) → Q (.ref a) H'
def spBlock (K : PySem.W.Frag) (m : Nat) : Sp := fun vs H Q _ => ∃ (p : Addr) (l c : Nat), vs = [.ref p, .int l] ∧ 1 ≤ l ∧ l < m ∧ l ≤ 20 ∧ Pot H p c ∧ c + 10 * cost l < 900000 ∧
  ∀ H' v n, But p H H' → NdV K H' v n → Ok n l → Pot H' p (c + cost l) → Q v H'
end Loc

set_option Elab.async false
set_option linter.all false
set_option maxRecDepth 100000
namespace Loc
open PySem PySem.Spec PyProof.Rows L2
/-! ### repr of nodes -/
mutual
theorem noDict_dat : ∀ a : Nd, PyData.hasDict (dat a) = false
  | .el n => by simp [dat, PyData.hasDict]
  | .run b c => by simp [dat, PyData.hasDict, PyData.hasDictAll, noDict_dat b]
  | .blk ps => by simp [dat, PyData.hasDict, PyData.hasDictAll, noDict_datAll ps]
theorem noDict_datAll : ∀ ps : List Nd, PyData.hasDictAll (datAll ps) = false
  | [] => by simp [datAll, PyData.hasDictAll]
  | a :: r => by simp [datAll, PyData.hasDictAll, noDict_dat a, noDict_datAll r]
end
theorem log60 {c : Nat} (h : c ≤ 10 ^ 60) : ((c : Int)).natAbs.log2 < 1920 := log_small (Nat.lt_of_le_of_lt h (by decide +kernel))
mutual
theorem showable_dat : ∀ (a : Nd) (l : Nat), Ok a l → PyData.showable (dat a) = true
  | .el n, l, h => by
    unfold Ok at h
    have := log60 (c := n) (Nat.le_trans h.2 (by decide +kernel))
    simpa [dat, PyData.showable] using this
  | .run b c, l, h => by
    unfold Ok at h
    have h1 := log60 h.2.1
    have h2 := showable_dat b l h.2.2.2
    simp only [dat, PyData.showable, PyData.showableAll, h2, Bool.true_and, Bool.and_true]
    exact decide_eq_true h1
  | .blk ps, l, h => by
    unfold Ok at h
    have h2 := showable_datAll ps (l - 1) h.2.2.2.1
    simp only [dat, PyData.showable, PyData.showableAll, h2, Bool.true_and, Bool.and_true]
theorem showable_datAll : ∀ (ps : List Nd) (l : Nat), OkAll ps l → PyData.showableAll (datAll ps) = true
  | [], l, _ => by simp [datAll, PyData.showableAll]
  | a :: r, l, h => by
    unfold OkAll at h
    simp [datAll, PyData.showableAll, showable_dat a l h.1, showable_datAll r l h.2]
end
theorem repr_sorts : (reprText "run").length = 5 ∧ (reprText "block").length = 7 := by
  constructor <;> decide +kernel
theorem shown_nat {c k : Nat} (hk : 0 < k) (h : c < 10 ^ k) : (PyData.shown (.int (c : Int))).length ≤ k := by
  rw [PyData.shown_int]
  refine toString_length_le (Int.natCast_nonneg _) hk ?_
  have := Int.ofNat_lt.mpr h
  have e : ((10 ^ k : Nat) : Int) = (10 : Int) ^ k := by simp
  rw [← e]
  exact this
/-- signs of a node of a level -/
def wide : Nat → Nat
  | 0 => 100
  | l + 1 => 3 * wide l + 110
mutual
theorem shown_dat : ∀ (a : Nd) (l : Nat), Ok a l → (PyData.shown (dat a)).length + (if a.isRun then 0 else 80) ≤ wide l
  | .el n, l, h => by
    unfold Ok at h
    obtain ⟨rfl, hn⟩ := h
    have := shown_nat (c := n) (k := 10) (by decide) (Nat.lt_of_le_of_lt hn (by decide))
    simp only [dat, Nd.isRun, wide]
    simp
    omega
  | .run b c, l, h => by
    unfold Ok at h
    have ih := shown_dat b l h.2.2.2
    rw [h.2.2.1] at ih
    have h1 := shown_nat (c := c) (k := 61) (by decide) (Nat.lt_of_le_of_lt h.2.1 (by decide +kernel))
    have t := tupleText_len_le [PyData.shown (.str "run"), PyData.shown (dat b), PyData.shown (.int c)]
    have e : (PyData.shown (.str "run")).length = 5 := by rw [PyData.shown_str]; exact repr_sorts.1
    simp only [List.map_cons, List.map_nil, List.sum_cons, List.sum_nil, List.length_cons, List.length_nil, e] at t
    simp only [dat, Nd.isRun, PyData.shown, PyData.shownAll, if_true, Bool.false_eq_true, if_false, Nat.add_zero] at ih t h1 ⊢
    omega
  | .blk ps, l, h => by
    unfold Ok at h
    obtain ⟨hl, h2, h3, h4, _⟩ := h
    obtain ⟨j, rfl⟩ : ∃ j, l = j + 1 := ⟨l - 1, by omega⟩
    have ih := shown_datAll ps j h4
    have t := tupleText_len_le (PyData.shownAll (datAll ps))
    rw [PyData.shownAll_length, datAll_length] at t
    have t2 := tupleText_len_le [PyData.shown (.str "block"), PyData.shown (.tuple (datAll ps))]
    have e : (PyData.shown (.str "block")).length = 7 := by rw [PyData.shown_str]; exact repr_sorts.2
    simp only [List.map_cons, List.map_nil, List.sum_cons, List.sum_nil, List.length_cons, List.length_nil, e] at t2
    have m : ps.length * wide j ≤ 3 * wide j := Nat.mul_le_mul_right _ h3
    simp only [dat, Nd.isRun, PyData.shown, PyData.shownAll, wide] at t t2 ⊢
    simp
    omega
theorem shown_datAll : ∀ (ps : List Nd) (l : Nat), OkAll ps l → ((PyData.shownAll (datAll ps)).map (·.length)).sum ≤ ps.length * wide l
  | [], l, _ => by simp [datAll, PyData.shownAll]
  | a :: r, l, h => by
    unfold OkAll at h
    have h1 := shown_dat a l h.1
    have h2 := shown_datAll r l h.2
    simp only [datAll, PyData.shownAll, List.map_cons, List.sum_cons, List.length_cons]
    rw [Nat.add_mul]
    omega
end
/-- what repr asks of a tuple of nodes -/
theorem rep_nodes {K : PySem.W.Frag} {H : Hp} {a : Addr} {us : List V} {ns : List Nd} {l : Nat} {Q : VK} (hS : SqT K H a us) (hn : NdsV K H us ns) (ok : OkAll ns l) (hl : l ≤ 20) (hz : ns.length * wide l + 2 * ns.length + 3 ≤ sizeLine)
    (q : Q (.str (PyData.shown (.tuple (datAll ns)))) H) : rRep K [.ref a] H Q := by
  have d := depth_datAll ns l ok
  refine ⟨a, .tuple (datAll ns), rfl, .tup hS hn, ?_, ?_, ?_, ?_, q⟩
  · show PyData.showableAll _ = true
    exact showable_datAll ns l ok
  · show PyData.hasDictAll _ = false
    exact noDict_datAll ns
  · simp only [PyData.depth]
    omega
  · show (tupleText _).length ≤ sizeLine
    have t := tupleText_len_le (PyData.shownAll (datAll ns))
    have s := shown_datAll ns l ok
    rw [PyData.shownAll_length, datAll_length] at t
    omega
/-! ### making runs -/
noncomputable section
open Classical
def stepG (acc : List (Nd × Nat)) (n : Nd) : List (Nd × Nat) :=
  match acc.getLast? with
  | some (m, c) => if m = n then acc.dropLast ++ [(n, c + 1)] else acc ++ [(n, 1)]
  | none => acc ++ [(n, 1)]
def grp (ns : List Nd) : List (Nd × Nat) := ns.foldl stepG []
theorem grp_app (ns : List Nd) (n : Nd) : grp (ns ++ [n]) = stepG (grp ns) n := by
  unfold grp
  rw [List.foldl_append]
  rfl
theorem stepG_last (acc : List (Nd × Nat)) (n : Nd) : ∃ i c, stepG acc n = i ++ [(n, c)] := by
  unfold stepG
  split
  · split
    · exact ⟨_, _, rfl⟩
    · exact ⟨_, _, rfl⟩
  · exact ⟨_, _, rfl⟩
theorem stepG_eq {i : List (Nd × Nat)} {n : Nd} {c : Nat} : stepG (i ++ [(n, c)]) n = i ++ [(n, c + 1)] := by
  unfold stepG
  rw [List.getLast?_append]
  simp
theorem stepG_ne {acc : List (Nd × Nat)} {n : Nd} (h : ∀ m c, acc.getLast? = some (m, c) → m ≠ n) : stepG acc n = acc ++ [(n, 1)] := by
  unfold stepG
  split
  · rename_i m c e
    rw [if_neg (h m c e)]
  · rfl
/-- the last group's node is the last node -/
theorem grp_last (ns : List Nd) (n : Nd) (c : Nat) (h : (grp ns).getLast? = some (n, c)) : ns.getLast? = some n := by
  rcases List.eq_nil_or_concat ns with rfl | ⟨init, z, rfl⟩
  · unfold grp at h
    simp at h
  · rw [List.concat_eq_append] at *
    rw [grp_app] at h
    obtain ⟨i, d, e⟩ := stepG_last (grp init) z
    rw [e, List.getLast?_append] at h
    simp at h
    rw [List.getLast?_append]
    simp [h.1]
theorem grp_rep (ns : List Nd) (a : Nd) (h : ns.getLast? ≠ some a) : ∀ k : Nat, grp (ns ++ List.replicate (k + 1) a) = grp ns ++ [(a, k + 1)]
  | 0 => by
    show grp (ns ++ [a]) = _
    rw [grp_app]
    refine stepG_ne fun m c e z => h ?_
    rw [grp_last ns m c e, z]
  | k + 1 => by
    rw [List.replicate_succ', ← List.append_assoc, grp_app, grp_rep ns a h k, stepG_eq]
def mkRun (p : Nd × Nat) : Nd := if p.2 = 1 then p.1 else .run p.1 p.2
def mkRuns (ns : List Nd) : List Nd := (grp ns).map mkRun
theorem stepG_len (acc : List (Nd × Nat)) (n : Nd) : (stepG acc n).length ≤ acc.length + 1 := by
  unfold stepG
  split
  · split
    · rename_i e _
      have := List.length_pos_iff.mpr (show acc ≠ [] from fun z => by rw [z] at e; cases e)
      simp
      try omega
    · simp
  · simp
theorem grp_foot (ns : List Nd) : ∀ p ∈ grp ns, p.1 ∈ ns ∧ 1 ≤ p.2 ∧ p.2 ≤ ns.length := by
  rcases h : ns.reverse with _ | ⟨z, r⟩
  all_goals skip
  · have : ns = [] := by simpa using h
    subst this
    unfold grp
    intro p hp
    exact nomatch hp
  · have e : ns = r.reverse ++ [z] := by
      have := congrArg List.reverse h
      simpa using this
    rw [e]
    clear h e
    generalize r.reverse = xs
    clear r
    suffices hh : ∀ (k : Nat) (xs : List Nd), xs.length = k → ∀ p ∈ grp xs, p.1 ∈ xs ∧ 1 ≤ p.2 ∧ p.2 ≤ xs.length from hh _ _ rfl
    intro k
    induction k with
    | zero =>
      intro xs hx p hp
      rw [List.eq_nil_of_length_eq_zero hx] at hp
      unfold grp at hp
      exact nomatch hp
    | succ k ih =>
      intro xs hx p hp
      rcases List.eq_nil_or_concat xs with rfl | ⟨i, y, rfl⟩
      · simp at hx
      · rw [List.concat_eq_append] at *
        have hi : i.length = k := by simpa using hx
        have g := ih i hi
        rw [grp_app] at hp
        unfold stepG at hp
        split at hp
        · rename_i m c e
          have gm := g (m, c) (List.mem_of_getLast? e)
          split at hp
          · rcases List.mem_append.mp hp with hp | hp
            · have := g p ((List.dropLast_sublist _).subset hp)
              simp
              exact ⟨.inl this.1, this.2.1, by omega⟩
            · rw [List.mem_singleton.mp hp]
              simp
              simp at gm
              omega
          · rcases List.mem_append.mp hp with hp | hp
            · have := g p hp
              simp
              exact ⟨.inl this.1, this.2.1, by omega⟩
            · rw [List.mem_singleton.mp hp]
              simp
        · rcases List.mem_append.mp hp with hp | hp
          · have := g p hp
            simp
            exact ⟨.inl this.1, this.2.1, by omega⟩
          · rw [List.mem_singleton.mp hp]
            simp
theorem grp_len (ns : List Nd) : (grp ns).length ≤ ns.length := by
  suffices hh : ∀ (xs : List Nd) (acc : List (Nd × Nat)), (xs.foldl stepG acc).length ≤ acc.length + xs.length from by
    have := hh ns []
    show (ns.foldl stepG []).length ≤ _
    simpa using this
  intro xs
  induction xs with
  | nil => intro acc; simp
  | cons x r ih =>
    intro acc
    have h1 := ih (stepG acc x)
    have h2 := stepG_len acc x
    rw [List.foldl_cons, List.length_cons]
    omega
theorem mkRuns_ok {ns : List Nd} {l : Nat} (h : OkAll ns l) (nr : ∀ n ∈ ns, n.isRun = false) (hz : ns.length ≤ 10 ^ 60) : OkAll (mkRuns ns) l := OkAll.of fun n hn => by
  obtain ⟨p, hp, rfl⟩ := List.mem_map.mp hn
  obtain ⟨h1, h2, h3⟩ := grp_foot ns p hp
  unfold mkRun
  split
  · exact h.mem _ h1
  · unfold Ok
    exact ⟨by omega, Nat.le_trans h3 hz, nr _ h1, h.mem _ h1⟩
end
end Loc
namespace Loc
open PySem PySem.Spec PyProof.Rows L2
/-! pairs of a node and a count -/
def pdat (p : Nd × Nat) : PyData := .tuple [dat p.1, .int (p.2 : Int)]
abbrev PrsV (K : PySem.W.Frag) (H : Hp) (vs : List V) (ps : List (Nd × Nat)) : Prop := DpAll K H vs (ps.map pdat)
section
variable {K : PySem.W.Frag} {H H' : Hp}
theorem PrsV.one {a : Addr} {v : V} {p : Nd × Nat} (h : SqT K H a [v, .int (p.2 : Int)]) (k : NdV K H v p.1) : PrsV K H [.ref a] [p] := .cons (.tup h (.cons k (.cons (.int _) .nil))) .nil
theorem PrsV.inv {v : V} {p : Nd × Nat} (h : Dp K H v (pdat p)) : ∃ a u, v = .ref a ∧ SqT K H a [u, .int (p.2 : Int)] ∧ NdV K H u p.1 := by
  unfold pdat at h
  cases h with
  | tup h1 h2 =>
    cases h2 with
    | cons k1 h2 =>
      cases h2 with
      | cons k2 h2 =>
        cases h2
        cases k2
        exact ⟨_, _, rfl, h1, k1⟩
theorem DpAll.len : ∀ {ds : List PyData} {vs : List V}, DpAll K H vs ds → vs.length = ds.length
  | _, _, .nil => rfl
  | _, _, .cons _ t => by rw [List.length_cons, List.length_cons, DpAll.len t]
theorem DpAll.app : ∀ {ds es : List PyData} {vs us : List V}, DpAll K H vs ds → DpAll K H us es → DpAll K H (vs ++ us) (ds ++ es)
  | _, _, _, _, .nil, k => k
  | _, _, _, _, .cons h t, k => .cons h (DpAll.app t k)
theorem DpAll.split : ∀ {ds es : List PyData} {vs : List V}, DpAll K H vs (ds ++ es) → ∃ us ws, vs = us ++ ws ∧ DpAll K H us ds ∧ DpAll K H ws es
  | [], es, vs, h => ⟨[], vs, rfl, .nil, h⟩
  | d :: ds, es, _, .cons h t => by
    obtain ⟨us, ws, rfl, h1, h2⟩ := DpAll.split (ds := ds) (es := es) t
    exact ⟨_ :: us, ws, rfl, .cons h h1, h2⟩
theorem DpAll.get : ∀ {ds : List PyData} {vs : List V} {i : Nat} {v : V}, DpAll K H vs ds → vs[i]? = some v → ∃ d, ds[i]? = some d ∧ Dp K H v d
  | _, _, _, _, .nil, e => by simp at e
  | _, _, 0, _, .cons h t, e => by
    simp at e
    subst e
    exact ⟨_, rfl, h⟩
  | _, _, i + 1, _, .cons h t, e => by
    obtain ⟨d, h1, h2⟩ := DpAll.get (i := i) t (by simpa using e)
    exact ⟨d, by simpa using h1, h2⟩
theorem Pr.up (e : Tups K H H') {v : V} {p : Nd × Nat} (h : Dp K H v (pdat p)) : Dp K H' v (pdat p) := by
  obtain ⟨a, u, rfl, h1, h2⟩ := PrsV.inv h
  exact .tup (e _ _ h1) (.cons (h2.up e) (.cons (.int _) .nil))
theorem PrsV.up (e : Tups K H H') : ∀ {ps : List (Nd × Nat)} {vs : List V}, PrsV K H vs ps → PrsV K H' vs ps
  | [], _, h => by
    cases h
    exact .nil
  | p :: r, _, h => by
    cases h with
    | cons h1 h2 => exact .cons (Pr.up e h1) (PrsV.up e h2)
theorem canLay_prs (l : Nat) : ∀ ps : List (Nd × Nat), (∀ p ∈ ps, Ok p.1 l) → PyData.canLayAll0 (ps.map pdat) = true ∧ PyData.depthAll (ps.map pdat) ≤ 3 * l + 2
  | [], _ => by simp [PyData.canLayAll0, PyData.depthAll]
  | p :: r, h => by
    have h1 := canLay_dat p.1
    have h2 := depth_le (h p List.mem_cons_self)
    have h3 := canLay_prs l r fun q hq => h q (List.mem_cons_of_mem _ hq)
    constructor
    · simp only [List.map_cons, PyData.canLayAll0, pdat, PyData.canLay0, h1, Bool.true_and]
      exact h3.1
    · have := h3.2
      simp only [List.map_cons, PyData.depthAll, pdat, PyData.depth]
      omega
theorem shaped_prs {l : Nat} {ps : List (Nd × Nat)} (h : ∀ p ∈ ps, Ok p.1 l) (hl : l ≤ 20) : SeqAt.shaped (.list (ps.map pdat)) = true := by
  obtain ⟨h1, h2⟩ := canLay_prs l ps h
  unfold SeqAt.shaped
  rw [Bool.and_eq_true]
  exact ⟨by simpa [PyData.canLay0] using h1, decide_eq_true (by simp only [PyData.depth]; omega)⟩
theorem eqv_emptyP (ps : List (Nd × Nat)) : PyData.eqv (.list (ps.map pdat)) (.list []) = ps.isEmpty := by
  cases ps <;> simp [PyData.eqv, PyData.eqvAll]
theorem ixN_last {n : Nat} : ixN (n + 1) (-1) = some n := by
  unfold ixN
  rw [if_neg (by omega), if_pos (by omega)]
  congr 1
  omega
end
theorem cut_to (xs : List V) (k : Nat) : cutV xs none (some (k : Int)) = xs.take k := by
  unfold cutV
  rw [HT.sIx_none, HT.sIx_nat, List.drop_zero, Nat.sub_zero]
  rcases Nat.le_total k xs.length with h | h
  · rw [Nat.min_eq_left h]
  · rw [Nat.min_eq_right h, List.take_length, List.take_of_length_le h]
theorem rep_one {α : Type} (x : α) : ∀ k : Nat, (List.replicate k [x]).flatten = List.replicate k x
  | 0 => rfl
  | k + 1 => by rw [List.replicate_succ, List.flatten_cons, rep_one x k]; rfl
theorem NdsV.rep {K : PySem.W.Frag} {H : Hp} {v : V} {a : Nd} (h : NdV K H v a) : ∀ k : Nat, NdsV K H (List.replicate k v) (List.replicate k a)
  | 0 => .nil
  | k + 1 => by
    rw [List.replicate_succ, List.replicate_succ]
    exact .cons h (NdsV.rep h k)
theorem NdsV.take {K : PySem.W.Frag} {H : Hp} : ∀ {ps : List Nd} {vs : List V} (k : Nat), NdsV K H vs ps → NdsV K H (vs.take k) (ps.take k)
  | [], vs, k, h => by rw [h.inv0]; simp; exact .nil
  | a :: r, vs, 0, h => by simp; exact .nil
  | a :: r, vs, k + 1, h => by
    obtain ⟨v, q, rfl, k1, k2⟩ := h.inv
    rw [List.take_succ_cons, List.take_succ_cons]
    exact .cons k1 (NdsV.take k k2)
end Loc
namespace Loc
open PySem PySem.Spec PyProof.Rows L2
section
variable {K : PySem.W.Frag} {H : Hp}
theorem PrsV.app {ps qs : List (Nd × Nat)} {vs us : List V} (h : PrsV K H vs ps) (k : PrsV K H us qs) : PrsV K H (vs ++ us) (ps ++ qs) := by
  show DpAll K H _ _
  rw [List.map_append]
  exact DpAll.app h k
theorem PrsV.split {ps : List (Nd × Nat)} {p : Nd × Nat} {vs : List V} (h : PrsV K H vs (ps ++ [p])) : ∃ us a u, vs = us ++ [.ref a] ∧ PrsV K H us ps ∧ SqT K H a [u, .int (p.2 : Int)] ∧ NdV K H u p.1 := by
  have h : DpAll K H vs ((ps ++ [p]).map pdat) := h
  rw [List.map_append] at h
  obtain ⟨us, ws, rfl, h1, h2⟩ := DpAll.split h
  cases h2 with
  | cons k1 k2 =>
    cases k2
    obtain ⟨a, u, rfl, t1, t2⟩ := PrsV.inv k1
    exact ⟨us, a, u, rfl, h1, t1, t2⟩
theorem PrsV.len {ps : List (Nd × Nat)} {vs : List V} (h : PrsV K H vs ps) : vs.length = ps.length := by rw [DpAll.len h, List.length_map]
theorem PrsV.get {ps : List (Nd × Nat)} {vs : List V} {i : Nat} {v : V} (h : PrsV K H vs ps) (e : vs[i]? = some v) : ∃ p a u, ps[i]? = some p ∧ v = .ref a ∧ SqT K H a [u, .int (p.2 : Int)] ∧ NdV K H u p.1 := by
  obtain ⟨d, h1, h2⟩ := DpAll.get h e
  rw [List.getElem?_map] at h1
  obtain ⟨p, hp, rfl⟩ := Option.map_eq_some_iff.mp h1
  obtain ⟨a, u, rfl, t1, t2⟩ := PrsV.inv h2
  exact ⟨p, a, u, hp, rfl, t1, t2⟩
end
end Loc

set_option Elab.async false
set_option linter.all false
set_option maxRecDepth 100000
namespace Loc
open PySem PySem.Spec PyProof.Rows L2
/-! ### texts and sizes -/
def numT (n : Nat) : Str := Str.ofString (toString (n : Int))
mutual
def txt : Nd → Str
  | .el n => numT n
  | .run b c => txt b ++ Str.ofString "^" ++ numT c
  | .blk ps => Str.ofString "(" ++ Txt.join " " (txts ps) ++ Str.ofString ")"
def txts : List Nd → List Str
  | [] => []
  | a :: r => txt a :: txts r
end
mutual
def sz : Nd → Nat
  | .el _ => 1
  | .run b c => sz b * c
  | .blk ps => szs ps
def szs : List Nd → Nat
  | [] => 0
  | a :: r => sz a + szs r
end
mutual
def ht : Nd → Nat
  | .el _ => 0
  | .run b _ => ht b + 1
  | .blk ps => hts ps + 1
def hts : List Nd → Nat
  | [] => 0
  | a :: r => max (ht a) (hts r)
end
theorem hts_mem : ∀ {ps : List Nd} {n : Nd}, n ∈ ps → ht n ≤ hts ps
  | a :: r, n, h => by
    unfold hts
    rcases List.mem_cons.mp h with rfl | h
    · omega
    · have := hts_mem h
      omega
theorem txts_map : ∀ ps : List Nd, txts ps = ps.map txt
  | [] => by unfold txts; rfl
  | a :: r => by unfold txts; rw [txts_map r]; rfl
theorem szs_sum : ∀ ps : List Nd, ((ps.map fun n => ((sz n : Nat) : Int)).sum) = (szs ps : Nat)
  | [] => by unfold szs; rfl
  | a :: r => by
    unfold szs
    rw [List.map_cons, List.sum_cons, szs_sum r]
    omega
mutual
theorem ht_le : ∀ (a : Nd) (l : Nat), Ok a l → ht a ≤ 2 * l + (if a.isRun then 1 else 0)
  | .el n, l, h => by simp [ht]
  | .run b c, l, h => by
    unfold Ok at h
    have ih := ht_le b l h.2.2.2
    rw [h.2.2.1] at ih
    simp only [ht, Nd.isRun, if_true, Bool.false_eq_true, if_false] at ih ⊢
    omega
  | .blk ps, l, h => by
    unfold Ok at h
    have ih := hts_le ps (l - 1) h.2.2.2.1
    simp only [ht, Nd.isRun, Bool.false_eq_true, if_false]
    omega
theorem hts_le : ∀ (ps : List Nd) (l : Nat), OkAll ps l → hts ps ≤ 2 * l + 1
  | [], l, _ => by simp [hts]
  | a :: r, l, h => by
    unfold OkAll at h
    have h1 := ht_le a l h.1
    have h2 := hts_le r l h.2
    simp only [hts]
    split at h1 <;> omega
end
mutual
theorem sz_lt : ∀ (a : Nd) (l : Nat), Ok a l → sz a < 2 ^ (404 * l + (if a.isRun then 202 else 2))
  | .el n, l, h => by
    unfold sz
    exact Nat.one_lt_two_pow (by split <;> omega)
  | .run b c, l, h => by
    unfold Ok at h
    have ih := sz_lt b l h.2.2.2
    rw [h.2.2.1] at ih
    simp only [Nd.isRun, if_true, Bool.false_eq_true, if_false, sz] at ih ⊢
    have hc : c < 2 ^ 200 := Nat.lt_of_le_of_lt h.2.1 (by decide +kernel)
    have := Nat.mul_lt_mul'' ih hc
    rw [← Nat.pow_add] at this
    exact this
  | .blk ps, l, h => by
    unfold Ok at h
    have ih := szs_lt ps (l - 1) h.2.2.2.1
    simp only [Nd.isRun, Bool.false_eq_true, if_false, sz]
    have hp := Nat.two_pow_pos (404 * (l - 1) + 202)
    have m : ps.length * 2 ^ (404 * (l - 1) + 202) ≤ 3 * 2 ^ (404 * (l - 1) + 202) := Nat.mul_le_mul_right _ h.2.2.1
    have e : 2 ^ (404 * (l - 1) + 202) * 2 ^ 2 ≤ 2 ^ (404 * l + 2) := by
      rw [← Nat.pow_add]
      exact Nat.pow_le_pow_right (by decide) (by omega)
    omega
theorem szs_lt : ∀ (ps : List Nd) (l : Nat), OkAll ps l → szs ps ≤ ps.length * 2 ^ (404 * l + 202)
  | [], l, _ => by simp [szs]
  | a :: r, l, h => by
    unfold OkAll at h
    have h1 := sz_lt a l h.1
    have h2 := szs_lt r l h.2
    have h3 : 2 ^ (404 * l + (if a.isRun then 202 else 2)) ≤ 2 ^ (404 * l + 202) := Nat.pow_le_pow_right (by decide) (by split <;> omega)
    simp only [szs, List.length_cons]
    rw [Nat.add_mul]
    omega
end
theorem sz_small {a : Nd} {l : Nat} (h : Ok a l) : sz a < 2 ^ (404 * l + 202) := Nat.lt_of_lt_of_le (sz_lt a l h) (Nat.pow_le_pow_right (by decide) (by split <;> omega))
theorem numT_len {n k : Nat} (hk : 0 < k) (h : n < 10 ^ k) : (numT n).length ≤ k := by
  have := shown_nat hk h
  rw [PyData.shown_int] at this
  exact this
mutual
theorem txt_len : ∀ (a : Nd) (l : Nat), Ok a l → (txt a).length + (if a.isRun then 0 else 80) ≤ wide l
  | .el n, l, h => by
    unfold Ok at h
    obtain ⟨rfl, hn⟩ := h
    have := numT_len (n := n) (k := 10) (by decide) (Nat.lt_of_le_of_lt hn (by decide))
    simp only [txt, Nd.isRun, wide, Bool.false_eq_true, if_false]
    omega
  | .run b c, l, h => by
    unfold Ok at h
    have ih := txt_len b l h.2.2.2
    rw [h.2.2.1] at ih
    have h1 := numT_len (n := c) (k := 61) (by decide) (Nat.lt_of_le_of_lt h.2.1 (by decide +kernel))
    simp only [txt, Nd.isRun, if_true, Bool.false_eq_true, if_false, strLen_append] at ih ⊢
    have e : (Str.ofString "^").length = 1 := by decide +kernel
    omega
  | .blk ps, l, h => by
    unfold Ok at h
    obtain ⟨hl, h2, h3, h4, _⟩ := h
    obtain ⟨j, rfl⟩ : ∃ j, l = j + 1 := ⟨l - 1, by omega⟩
    have ih := txts_len ps j h4
    have m : ps.length * wide j ≤ 3 * wide j := Nat.mul_le_mul_right _ h3
    have g := size_glued " " (txts ps)
    have e1 : (Str.ofString "(").length = 1 := by decide +kernel
    have e2 : (Str.ofString ")").length = 1 := by decide +kernel
    have e3 : (Str.ofString " ").length = 1 := by decide +kernel
    have e4 : (txts ps).length = ps.length := by rw [txts_map, List.length_map]
    rw [e3, e4] at g
    simp only [txt, Nd.isRun, Bool.false_eq_true, if_false, strLen_append, wide]
    show (Str.ofString "(").length + (Builtin.Str.glued " " (txts ps)).length + (Str.ofString ")").length + 80 ≤ _
    omega
theorem txts_len : ∀ (ps : List Nd) (l : Nat), OkAll ps l → ((txts ps).map (·.length)).sum ≤ ps.length * wide l
  | [], l, _ => by simp [txts]
  | a :: r, l, h => by
    unfold OkAll at h
    have h1 := txt_len a l h.1
    have h2 := txts_len r l h.2
    simp only [txts, List.map_cons, List.sum_cons, List.length_cons]
    rw [Nat.add_mul]
    omega
end
def C8 (s : Str) : Prop := ∀ c ∈ s.cps.toList, c < 16 ^ 8
theorem C8.of (s : String) : C8 (Str.ofString s) := fun c hc => by
  rw [signs_ofString] at hc
  obtain ⟨d, _, rfl⟩ := List.mem_map.mp hc
  exact d.val.toNat_lt
theorem C8.app {a b : Str} (h : C8 a) (k : C8 b) : C8 (a ++ b) := fun c hc => by
  have e : (a ++ b).cps.toList = a.cps.toList ++ b.cps.toList := by
    show (a.cps ++ b.cps).toList = _
    simp
  rw [e] at hc
  rcases List.mem_append.mp hc with hc | hc
  · exact h c hc
  · exact k c hc
theorem C8.join {sep : Str} (hs : C8 sep) : ∀ {l : List Str}, (∀ y ∈ l, C8 y) → C8 (Str.join sep l)
  | [], _ => fun c hc => by
    have : (Str.join sep []).cps.toList = [] := rfl
    rw [this] at hc
    cases hc
  | [x], h => h x List.mem_cons_self
  | x :: y :: r, h => ((h x List.mem_cons_self).app hs).app (C8.join hs fun z hz => h z (List.mem_cons_of_mem _ hz))
mutual
theorem txt_c8 : ∀ a : Nd, C8 (txt a)
  | .el n => by unfold txt; exact .of _
  | .run b c => by unfold txt; exact ((txt_c8 b).app (.of _)).app (.of _)
  | .blk ps => by
    unfold txt
    refine ((C8.of "(").app ?_).app (.of _)
    show C8 (Builtin.Str.glued " " (txts ps))
    rw [StrLaws.glued_eq_join]
    exact C8.join (.of _) (txts_c8 ps)
theorem txts_c8 : ∀ ps : List Nd, ∀ y ∈ txts ps, C8 y
  | [], y, h => by unfold txts at h; cases h
  | a :: r, y, h => by
    unfold txts at h
    rcases List.mem_cons.mp h with rfl | h
    · exact txt_c8 a
    · exact txts_c8 r y h
end
/-! repr of a node or a number -/
def rRepA (K : PySem.W.Frag) : List V → Hp → VK → Prop := fun xs H Q => rRep K xs H Q ∨ ∃ i : Int, xs = [.int i] ∧ i.natAbs.log2 < 1920 ∧ Q (.str (Str.ofString (toString i))) H
theorem call_repA {X : Cx} {k : Nat} (hr : Room k X.A) (hg : X.A.guards = some []) : CallR X (.builtin "repr") (rRepA X.K) := by
  intro pins s σ H xs us Q I r h
  rcases h with h | ⟨i, rfl, hz, q⟩
  · exact call_rep hr hg pins s σ H xs us Q I r h
  · obtain ⟨u, rfl, t, rfl⟩ := vals1 r
    exact PySem.P.repr_of_int hz ⟨.str _, H, I.tok _, ⟨_, rfl⟩, q⟩
theorem rep_node {K : PySem.W.Frag} {H : Hp} {v : V} {n : Nd} {l : Nat} {Q : VK} (hn : NdV K H v n) (ok : Ok n l) (hl : l ≤ 20) (hz : wide l ≤ sizeLine) (q : Q (.str (PyData.shown (dat n))) H) : rRepA K [v] H Q := by
  have d := depth_le ok
  have w := shown_dat n l ok
  have sh := showable_dat n l ok
  cases n with
  | el m =>
    have ev := hn.el
    subst ev
    refine .inr ⟨m, rfl, ?_, ?_⟩
    · simpa [dat, PyData.showable] using sh
    · have e : (dat (.el m)).shown = Str.ofString (toString (m : Int)) := by unfold dat; exact PyData.shown_int _
      rw [← e]
      exact q
  | run b c =>
    obtain ⟨a, v2, rfl, _, _⟩ := hn.run
    exact .inl ⟨a, _, rfl, hn, sh, noDict_dat _, by omega, by split at w <;> omega, q⟩
  | blk ps =>
    obtain ⟨a, b, vs, rfl, _, _, _⟩ := hn.blk
    exact .inl ⟨a, _, rfl, hn, sh, noDict_dat _, by omega, by split at w <;> omega, q⟩
end Loc

/-! the lowest digit in which two naturals differ -/
namespace M07
theorem or_two (a b : Nat) : (a ||| b) = 2 * ((a / 2) ||| (b / 2)) + (if a % 2 = 0 ∧ b % 2 = 0 then 0 else 1) := by
  have h1 : (a ||| b) / 2 = (a / 2) ||| (b / 2) := Nat.or_div_two
  have h2 : (a ||| b) % 2 = if a % 2 = 0 ∧ b % 2 = 0 then 0 else 1 := by
    have h3 := @Nat.or_mod_two_eq_one a b
    split <;> omega
  rw [← h1, ← h2]
  omega
theorem and_two (a b : Nat) : (a &&& b) = 2 * ((a / 2) &&& (b / 2)) + (if a % 2 = 1 ∧ b % 2 = 1 then 1 else 0) := by
  have h1 : (a &&& b) / 2 = (a / 2) &&& (b / 2) := Nat.and_div_two
  have h2 : (a &&& b) % 2 = if a % 2 = 1 ∧ b % 2 = 1 then 1 else 0 := by
    have h3 := @Nat.and_mod_two_eq_one a b
    split <;> omega
  rw [← h1, ← h2]
  omega
/-- the digits of one and not of the other -/
def dif (a b : Nat) : Nat := (a ||| b) - (a &&& b)
theorem and_le_or : ∀ (n a b : Nat), a + b ≤ n → (a &&& b) ≤ (a ||| b)
  | 0, a, b, h => by
    have e1 : a = 0 := by omega
    have e2 : b = 0 := by omega
    subst e1; subst e2; decide
  | n + 1, a, b, h => by
    by_cases z : a + b = 0
    · have e1 : a = 0 := by omega
      have e2 : b = 0 := by omega
      subst e1; subst e2; decide
    · have ih := and_le_or n (a / 2) (b / 2) (by omega)
      rw [or_two a b, and_two a b]
      split <;> split <;> omega
theorem dif_two (a b : Nat) : dif a b = 2 * dif (a / 2) (b / 2) + (if a % 2 = b % 2 then 0 else 1) := by
  unfold dif
  have k := and_le_or _ (a / 2) (b / 2) (Nat.le_refl _)
  rw [or_two a b, and_two a b]
  split <;> split <;> split <;> omega
/-- the lowest digit in which they differ, looked for within the fuel -/
def low : Nat → Nat → Nat → Nat
  | 0, _, _ => 0
  | n + 1, a, b => if a % 2 = b % 2 then low n (a / 2) (b / 2) + 1 else 0
theorem low_spec : ∀ (n a b : Nat), a + b < n → a ≠ b →
    (∃ q, dif a b = 2 ^ low n a b * (2 * q + 1)) ∧ (a / 2 ^ low n a b) % 2 ≠ (b / 2 ^ low n a b) % 2 ∧ ∀ i, i < low n a b → (a / 2 ^ i) % 2 = (b / 2 ^ i) % 2
  | 0, a, b, h, _ => by omega
  | n + 1, a, b, h, hne => by
    unfold low
    have hd := dif_two a b
    by_cases e : a % 2 = b % 2
    · rw [if_pos e]
      rw [if_pos e] at hd
      obtain ⟨⟨q, h1⟩, h2, h3⟩ := low_spec n (a / 2) (b / 2) (by omega) (by omega)
      refine ⟨⟨q, ?_⟩, ?_, fun i hi => ?_⟩
      · rw [hd, h1, Nat.pow_succ]
        simp [Nat.mul_assoc, Nat.mul_comm, Nat.mul_left_comm]
      · rw [Nat.pow_succ, Nat.mul_comm, ← Nat.div_div_eq_div_mul, ← Nat.div_div_eq_div_mul]
        exact h2
      · cases i with
        | zero => simpa using e
        | succ i =>
          rw [Nat.pow_succ, Nat.mul_comm, ← Nat.div_div_eq_div_mul, ← Nat.div_div_eq_div_mul]
          exact h3 i (by omega)
    · rw [if_neg e]
      rw [if_neg e] at hd
      refine ⟨⟨dif (a / 2) (b / 2), ?_⟩, ?_, fun i hi => ?_⟩
      · rw [hd]; simp
      · simpa using e
      · omega
/-- u & (u - 1), u = 2 ^ t * odd -/
theorem and_pred : ∀ (t q : Nat), (2 ^ t * (2 * q + 1)) &&& (2 ^ t * (2 * q + 1) - 1) = 2 ^ t * (2 * q)
  | 0, q => by
    simp only [Nat.pow_zero, Nat.one_mul, Nat.add_sub_cancel]
    rw [and_two]
    rw [show (2 * q + 1) / 2 = q by omega, show 2 * q / 2 = q by omega, Nat.and_self]
    rw [if_neg (by omega)]
    omega
  | t + 1, q => by
    have ih := and_pred t q
    have hp : 0 < 2 ^ t * (2 * q + 1) := Nat.mul_pos (Nat.two_pow_pos t) (by omega)
    rw [show 2 ^ (t + 1) * (2 * q + 1) = 2 * (2 ^ t * (2 * q + 1)) by rw [Nat.pow_succ]; simp [Nat.mul_assoc, Nat.mul_comm, Nat.mul_left_comm]]
    rw [show 2 ^ (t + 1) * (2 * q) = 2 * (2 ^ t * (2 * q)) by rw [Nat.pow_succ]; simp [Nat.mul_assoc, Nat.mul_comm, Nat.mul_left_comm]]
    generalize 2 ^ t * (2 * q + 1) = u at ih hp ⊢
    rw [and_two, if_neg (by omega)]
    rw [show 2 * u / 2 = u by omega, show (2 * u - 1) / 2 = u - 1 by omega, ih]
    omega
/-- the mark of a later place -/
def mk (a b : Nat) : Nat := 2 * low (a + b + 1) a b + (b / 2 ^ low (a + b + 1) a b) % 2
/-- a later round -/
def marks : Nat → List Nat → List Nat
  | _, [] => []
  | a, b :: r => mk a b :: marks b r
def round : List Nat → List Nat
  | [] => []
  | a :: r => a % 2 :: marks a r
theorem marks_length : ∀ (a : Nat) (l : List Nat), (marks a l).length = l.length
  | _, [] => rfl
  | a, b :: r => by show (marks b r).length + 1 = r.length + 1; rw [marks_length b r]
theorem round_length (l : List Nat) : (round l).length = l.length := by
  cases l with
  | nil => rfl
  | cons a r => show (marks a r).length + 1 = r.length + 1; rw [marks_length]
theorem marks_get : ∀ (a : Nat) (l : List Nat) (i x y : Nat), (a :: l)[i]? = some x → (a :: l)[i + 1]? = some y → (marks a l)[i]? = some (mk x y)
  | a, [], i, x, y, _, h => by simp at h
  | a, b :: r, 0, x, y, h1, h2 => by
    simp at h1 h2
    subst h1; subst h2; rfl
  | a, b :: r, i + 1, x, y, h1, h2 => by
    show (marks b r)[i]? = _
    exact marks_get b r i x y h1 h2
theorem round_get (l : List Nat) (i x y : Nat) (h1 : l[i]? = some x) (h2 : l[i + 1]? = some y) : (round l)[i + 1]? = some (mk x y) := by
  cases l with
  | nil => simp at h1
  | cons a r => exact marks_get a r i x y h1 h2
/-- neighbours unlike -/
def Unl : List Nat → Prop
  | a :: b :: r => a ≠ b ∧ Unl (b :: r)
  | _ => True
theorem Unl.get : ∀ {l : List Nat} {i x y : Nat}, Unl l → l[i]? = some x → l[i + 1]? = some y → x ≠ y
  | [], _, _, _, _, h, _ => by simp at h
  | [_], i, _, _, _, _, h => by simp at h
  | a :: b :: r, 0, x, y, u, h1, h2 => by
    simp at h1 h2
    subst h1; subst h2; exact u.1
  | a :: b :: r, i + 1, x, y, u, h1, h2 => Unl.get (l := b :: r) (i := i) u.2 (by simpa using h1) (by simpa using h2)
theorem mk_low {a b : Nat} (h : a ≠ b) : mk a b / 2 = low (a + b + 1) a b ∧ mk a b % 2 = (b / 2 ^ low (a + b + 1) a b) % 2 := by
  unfold mk
  omega
theorem mk_ne {a b c : Nat} (h1 : a ≠ b) (h2 : b ≠ c) : mk a b ≠ mk b c := fun e => by
  obtain ⟨p1, p2⟩ := mk_low h1
  obtain ⟨q1, q2⟩ := mk_low h2
  rw [e] at p1 p2
  have el : low (a + b + 1) a b = low (b + c + 1) b c := p1.symm.trans q1
  obtain ⟨_, k, _⟩ := low_spec (b + c + 1) b c (by omega) h2
  rw [← el] at k q2
  exact k (p2.symm.trans q2)
theorem mk_ne0 {a b : Nat} (h : a ≠ b) : a % 2 ≠ mk a b := fun e => by
  obtain ⟨p1, p2⟩ := mk_low h
  obtain ⟨_, k, _⟩ := low_spec (a + b + 1) a b (by omega) h
  have e0 : low (a + b + 1) a b = 0 := by omega
  rw [e0] at k p2
  simp at k p2
  omega
theorem marks_unl : ∀ (a : Nat) (l : List Nat), Unl (a :: l) → Unl (marks a l)
  | _, [], _ => trivial
  | _, [_], _ => trivial
  | a, b :: c :: r, u => ⟨mk_ne u.1 u.2.1, marks_unl b (c :: r) u.2⟩
theorem round_unl (l : List Nat) (u : Unl l) : Unl (round l) := by
  match l, u with
  | [], _ => trivial
  | [_], _ => trivial
  | a :: b :: r, u => exact ⟨mk_ne0 u.1, marks_unl a (b :: r) u⟩
end M07

set_option Elab.async false
set_option linter.all false
namespace M07
open PySem PyProof.Rows
theorem xor_nn (x y : Nat) : Builtin.bitXor (x : Int) (y : Int) = (dif x y : Nat) := by
  show Builtin.bitOr (x : Int) (y : Int) - Builtin.bitAnd (x : Int) (y : Int) = _
  have k := and_le_or _ x y (Nat.le_refl _)
  rw [L2.bitOr_nn (Int.natCast_nonneg _) (Int.natCast_nonneg _), bitAnd_pp (Int.natCast_nonneg _) (Int.natCast_nonneg _)]
  simp only [Int.toNat_natCast]
  unfold dif
  omega
theorem and_neg (u : Nat) (h : 0 < u) : Builtin.bitAnd (u : Int) (-(u : Int)) = (u : Int) - ((u &&& (u - 1) : Nat) : Int) := by
  have h1 : ¬ 0 ≤ -(u : Int) := by omega
  have h2 : (0 : Int) ≤ u := by omega
  have e : (Builtin.bitNot (-(u : Int))).toNat = u - 1 := by
    show (- -(u : Int) - 1).toNat = u - 1
    omega
  unfold Builtin.bitAnd
  rw [decide_eq_true h2, decide_eq_false h1]
  show (u : Int) - (((u : Int).toNat &&& (Builtin.bitNot (-(u : Int))).toNat : Nat) : Int) = _
  rw [e, Int.toNat_natCast]
theorem low_word {x y : Nat} (h : x ≠ y) : ((Builtin.Int.intBits (Builtin.bitAnd (Builtin.bitXor (x : Int) (y : Int)) (-(Builtin.bitXor (x : Int) (y : Int)))) : Nat) : Int) - 1 = (low (x + y + 1) x y : Nat) := by
  obtain ⟨⟨q, e⟩, _, _⟩ := low_spec (x + y + 1) x y (by omega) h
  generalize low (x + y + 1) x y = t at e ⊢
  have hp : 0 < 2 ^ t := Nat.two_pow_pos t
  have hu : 0 < dif x y := by
    rw [e]
    exact Nat.mul_pos hp (by omega)
  rw [xor_nn, and_neg _ hu, e, and_pred t q]
  have e2 : ((2 ^ t * (2 * q + 1) : Nat) : Int) - ((2 ^ t * (2 * q) : Nat) : Int) = ((2 ^ t : Nat) : Int) := by
    rw [show 2 ^ t * (2 * q + 1) = 2 ^ t * (2 * q) + 2 ^ t by rw [Nat.mul_add, Nat.mul_one]]
    omega
  rw [e2]
  unfold Builtin.Int.intBits
  have hz : ¬ (((2 ^ t : Nat) : Int) == 0) = true := by
    rw [beq_iff_eq]
    omega
  rw [if_neg hz, Int.natAbs_natCast, Nat.log2_two_pow]
  omega
theorem high_word (y t : Nat) : Builtin.bitAnd ((y : Int) / 2 ^ t) 1 = ((y / 2 ^ t % 2 : Nat) : Int) := by
  rw [PyProof.Rows.bitAnd_m1, ← PySem.W.kbt_cast t]
  omega
theorem mark_word {x y : Nat} (h : x ≠ y) : 2 * (((Builtin.Int.intBits (Builtin.bitAnd (Builtin.bitXor (x : Int) (y : Int)) (-(Builtin.bitXor (x : Int) (y : Int)))) : Nat) : Int) - 1) +
    Builtin.bitAnd ((y : Int) / 2 ^ (((Builtin.Int.intBits (Builtin.bitAnd (Builtin.bitXor (x : Int) (y : Int)) (-(Builtin.bitXor (x : Int) (y : Int)))) : Nat) : Int) - 1).toNat) 1 = (mk x y : Nat) := by
  rw [low_word h, Int.toNat_natCast, high_word]
  unfold mk
  omega
end M07

set_option Elab.async false
set_option linter.all false
set_option maxRecDepth 100000
namespace Loc
open PySem PySem.Spec PyProof.Rows L2 TL
/-! ### texts as lists of signs -/
mutual
def cd : Nd → List Nat
  | .el n => numL n
  | .run b c => cd b ++ 94 :: numL c
  | .blk ps => 40 :: cds ps
def cds : List Nd → List Nat
  | [] => [41]
  | a :: r => cd a ++ cdt r
def cdt : List Nd → List Nat
  | [] => [41]
  | a :: r => 32 :: (cd a ++ cdt r)
end
theorem cd_run (b : Nd) (c : Nat) : cd (.run b c) = cd b ++ 94 :: numL c := by rw [cd]
/-- a sign of a text -/
def Sg (c : Nat) : Prop := (48 ≤ c ∧ c ≤ 57) ∨ c = 32 ∨ c = 40 ∨ c = 41 ∨ c = 94
theorem numL_sg (n : Nat) : ∀ c ∈ numL n, 48 ≤ c ∧ c ≤ 57 := fun c hc => numL_digits n c hc
mutual
theorem cd_sg : ∀ a : Nd, ∀ c ∈ cd a, Sg c
  | .el n, c, h => by
    unfold cd at h
    exact .inl (numL_sg n c h)
  | .run b k, c, h => by
    unfold cd at h
    rcases List.mem_append.mp h with h | h
    · exact cd_sg b c h
    rcases List.mem_cons.mp h with h | h
    · exact .inr (.inr (.inr (.inr h)))
    · exact .inl (numL_sg k c h)
  | .blk ps, c, h => by
    unfold cd at h
    rcases List.mem_cons.mp h with h | h
    · exact .inr (.inr (.inl h))
    · exact cds_sg ps c h
theorem cds_sg : ∀ ps : List Nd, ∀ c ∈ cds ps, Sg c
  | [], c, h => by
    unfold cds at h
    exact .inr (.inr (.inr (.inl (List.mem_singleton.mp h))))
  | a :: r, c, h => by
    unfold cds at h
    rcases List.mem_append.mp h with h | h
    · exact cd_sg a c h
    · exact cdt_sg r c h
theorem cdt_sg : ∀ ps : List Nd, ∀ c ∈ cdt ps, Sg c
  | [], c, h => by
    unfold cdt at h
    exact .inr (.inr (.inr (.inl (List.mem_singleton.mp h))))
  | a :: r, c, h => by
    unfold cdt at h
    rcases List.mem_cons.mp h with h | h
    · exact .inr (.inl h)
    rcases List.mem_append.mp h with h | h
    · exact cd_sg a c h
    · exact cdt_sg r c h
end
/-- what may stand behind a node's text; behind that of a base -/
def Dl (s : List Nat) : Prop := s = [] ∨ ∃ r, s = 32 :: r ∨ s = 41 :: r
def Dv (s : List Nat) : Prop := Dl s ∨ ∃ r, s = 94 :: r
theorem Dv.no {s : List Nat} {c : Nat} {r : List Nat} (h : Dv s) (e : s = c :: r) (d : (48 ≤ c ∧ c ≤ 57) ∨ c = 40) : False := by
  rcases h with (h | ⟨q, h | h⟩) | ⟨q, h⟩
  · rw [h] at e; cases e
  · rw [h] at e
    injection e with e _
    omega
  · rw [h] at e
    injection e with e _
    omega
  · rw [h] at e
    injection e with e _
    omega
theorem digs : ∀ (x y s t : List Nat), (∀ c ∈ x, 48 ≤ c ∧ c ≤ 57) → (∀ c ∈ y, 48 ≤ c ∧ c ≤ 57) → Dv s → Dv t → x ++ s = y ++ t → x = y ∧ s = t
  | [], [], s, t, _, _, _, _, e => ⟨rfl, e⟩
  | [], d :: y, s, t, _, hy, ds, _, e => (ds.no e (.inl (hy d List.mem_cons_self))).elim
  | d :: x, [], s, t, hx, _, _, dt, e => (dt.no e.symm (.inl (hx d List.mem_cons_self))).elim
  | c :: x, d :: y, s, t, hx, hy, ds, dt, e => by
    injection e with e1 e2
    obtain ⟨h1, h2⟩ := digs x y s t (fun z hz => hx z (List.mem_cons_of_mem _ hz)) (fun z hz => hy z (List.mem_cons_of_mem _ hz)) ds dt e2
    exact ⟨by rw [e1, h1], h2⟩
theorem Dl.no94 {r : List Nat} (h : Dl (94 :: r)) : False := by
  rcases h with h | ⟨q, h | h⟩
  · cases h
  · injection h with h _; exact absurd h (by decide)
  · injection h with h _; exact absurd h (by decide)
mutual
theorem cd_head : ∀ a : Nd, ∃ c r, cd a = c :: r ∧ ((48 ≤ c ∧ c ≤ 57) ∨ c = 40)
  | .el n => by
    unfold cd
    cases e : numL n with
    | nil => exact absurd e (numL_ne n)
    | cons c r => exact ⟨c, r, rfl, .inl (numL_sg n c (by rw [e]; exact List.mem_cons_self))⟩
  | .run b k => by
    obtain ⟨c, r, e, d⟩ := cd_head b
    unfold cd
    rw [e]
    exact ⟨c, _, rfl, d⟩
  | .blk ps => by
    unfold cd
    exact ⟨40, _, rfl, .inr rfl⟩
end
theorem cdt_dl (ps : List Nd) (s : List Nat) : Dl (cdt ps ++ s) := by
  cases ps with
  | nil => unfold cdt; exact .inr ⟨_, .inr rfl⟩
  | cons a r => unfold cdt; exact .inr ⟨_, .inl rfl⟩
def Inj (a : Nd) : Prop := (∀ (b : Nd) (l l' : Nat) (s t : List Nat), a.isRun = false → b.isRun = false → Ok a l → Ok b l' → Dv s → Dv t → cd a ++ s = cd b ++ t → a = b ∧ s = t)
def InjU (a : Nd) : Prop := (∀ (b : Nd) (l l' : Nat) (s t : List Nat), Ok a l → Ok b l' → Dl s → Dl t → cd a ++ s = cd b ++ t → a = b ∧ s = t)
theorem injU_of {a : Nd} (h : Inj a) (hr : a.isRun = false) : InjU a := fun b l l' s t oa ob ds dt e => by
  cases b with
  | run b c =>
    rw [cd_run, List.append_assoc] at e
    have ob' := ob
    unfold Ok at ob'
    obtain ⟨_, h2⟩ := h b l l' s _ hr ob'.2.2.1 oa ob'.2.2.2 (.inl ds) (.inr ⟨numL c ++ t, rfl⟩) e
    exact (Dl.no94 (h2 ▸ ds)).elim
  | el n => exact h _ l l' s t hr rfl oa ob (.inl ds) (.inl dt) e
  | blk ps => exact h _ l l' s t hr rfl oa ob (.inl ds) (.inl dt) e
theorem injU_run {a : Nd} {c : Nat} (h : Inj a) : InjU (.run a c) := fun b l l' s t oa ob ds dt e => by
  unfold Ok at oa
  cases b with
  | run b d =>
    unfold Ok at ob
    rw [cd_run, cd_run, List.append_assoc, List.append_assoc] at e
    obtain ⟨h1, h2⟩ := h b l l' _ _ oa.2.2.1 ob.2.2.1 oa.2.2.2 ob.2.2.2 (.inr ⟨_, rfl⟩) (.inr ⟨_, rfl⟩) e
    injection h2 with _ h2
    have h2 : numL c ++ s = numL d ++ t := h2
    obtain ⟨h3, h4⟩ := digs _ _ s t (numL_sg c) (numL_sg d) (.inl ds) (.inl dt) h2
    exact ⟨by rw [h1, numL_inj h3], h4⟩
  | el n =>
    rw [cd_run, List.append_assoc] at e
    obtain ⟨_, h2⟩ := h (.el n) l l' _ t oa.2.2.1 rfl oa.2.2.2 ob (.inr ⟨numL c ++ s, rfl⟩) (.inl dt) e
    exact (Dl.no94 (h2 ▸ dt)).elim
  | blk ps =>
    rw [cd_run, List.append_assoc] at e
    obtain ⟨_, h2⟩ := h (.blk ps) l l' _ t oa.2.2.1 rfl oa.2.2.2 ob (.inr ⟨numL c ++ s, rfl⟩) (.inl dt) e
    exact (Dl.no94 (h2 ▸ dt)).elim
mutual
theorem inj : ∀ a : Nd, Inj a
  | .el n => fun b l l' s t _ rb oa ob ds dt e => by
    cases b with
    | run b c => cases rb
    | el m =>
      unfold cd at e
      obtain ⟨h1, h2⟩ := digs _ _ s t (numL_sg n) (numL_sg m) ds dt e
      exact ⟨by rw [numL_inj h1], h2⟩
    | blk ps =>
      exfalso
      unfold cd at e
      cases en : numL n with
      | nil => exact numL_ne n en
      | cons c r =>
        rw [en, List.cons_append, List.cons_append] at e
        injection e with e _
        have := numL_sg n c (by rw [en]; exact List.mem_cons_self)
        omega
  | .run b c => fun _ _ _ _ _ ra => by cases ra
  | .blk ps => fun b l l' s t _ rb oa ob ds dt e => by
    cases b with
    | run b c => cases rb
    | el m =>
      exfalso
      unfold cd at e
      cases en : numL m with
      | nil => exact numL_ne m en
      | cons c r =>
        rw [en, List.cons_append, List.cons_append] at e
        injection e with e _
        have := numL_sg m c (by rw [en]; exact List.mem_cons_self)
        omega
    | blk qs =>
      unfold Ok at oa ob
      unfold cd at e
      rw [List.cons_append, List.cons_append] at e
      injection e with _ e
      match ps, qs, oa, ob, e with
      | [], _, oa, _, _ => exact absurd oa.2.1 (by simp)
      | _ :: _, [], _, ob, _ => exact absurd ob.2.1 (by simp)
      | a :: r, b :: q, oa, ob, e =>
        unfold cds at e
        have o1 := oa.2.2.2.1
        have o2 := ob.2.2.2.1
        unfold OkAll at o1 o2
        rw [List.append_assoc, List.append_assoc] at e
        obtain ⟨h1, h2⟩ := injUs a b _ _ _ _ o1.1 o2.1 (cdt_dl r s) (cdt_dl q t) e
        obtain ⟨h3, h4⟩ := injT r q _ _ s t o1.2 o2.2 h2
        exact ⟨by rw [h1, h3], h4⟩
theorem injUs : ∀ a : Nd, InjU a
  | .el n => injU_of (inj (.el n)) rfl
  | .run b c => injU_run (inj b)
  | .blk ps => injU_of (inj (.blk ps)) rfl
theorem injT : ∀ (ps qs : List Nd) (l l' : Nat) (s t : List Nat), OkAll ps l → OkAll qs l' → cdt ps ++ s = cdt qs ++ t → ps = qs ∧ s = t
  | [], [], _, _, s, t, _, _, e => by
    unfold cdt at e
    injection e with _ e
    exact ⟨rfl, e⟩
  | [], b :: q, _, _, s, t, _, _, e => by
    unfold cdt at e
    injection e with e _
    exact absurd e (by decide)
  | a :: r, [], _, _, s, t, _, _, e => by
    unfold cdt at e
    injection e with e _
    exact absurd e (by decide)
  | a :: r, b :: q, l, l', s, t, oa, ob, e => by
    unfold cdt at e
    rw [List.cons_append, List.cons_append, List.append_assoc, List.append_assoc] at e
    injection e with _ e
    unfold OkAll at oa ob
    obtain ⟨h1, h2⟩ := injUs a b l l' _ _ oa.1 ob.1 (cdt_dl r s) (cdt_dl q t) e
    obtain ⟨h3, h4⟩ := injT r q l l' s t oa.2 ob.2 h2
    exact ⟨by rw [h1, h3], h4⟩
end
theorem cd_inj {a b : Nd} {l l' : Nat} (oa : Ok a l) (ob : Ok b l') (e : cd a = cd b) : a = b :=
  (injUs a b l l' [] [] oa ob (.inl rfl) (.inl rfl) (by rw [e])).1
end Loc

set_option Elab.async false
set_option linter.all false
set_option maxRecDepth 100000
namespace Loc
open PySem PySem.Spec PyProof.Rows L2 TL
/-! ### first marks -/
def cp : List Nat → List Nat → Nat
  | a :: r, b :: q => if a = b then cp r q + 1 else 0
  | _, _ => 0
theorem cp_same : ∀ (a b : List Nat) (i : Nat), i < cp a b → ∃ x, a[i]? = some x ∧ b[i]? = some x
  | [], _, i, h => by unfold cp at h; exact absurd h (Nat.not_lt_zero _)
  | _ :: _, [], i, h => by unfold cp at h; exact absurd h (Nat.not_lt_zero _)
  | a :: r, b :: q, i, h => by
    unfold cp at h
    split at h
    · rename_i e
      cases i with
      | zero => exact ⟨a, rfl, by rw [e]; rfl⟩
      | succ i => exact cp_same r q i (by omega)
    · exact absurd h (Nat.not_lt_zero _)
theorem cp_le : ∀ (a b : List Nat), cp a b ≤ a.length ∧ cp a b ≤ b.length
  | [], _ => by unfold cp; exact ⟨Nat.zero_le _, Nat.zero_le _⟩
  | _ :: _, [] => by unfold cp; exact ⟨Nat.zero_le _, Nat.zero_le _⟩
  | a :: r, b :: q => by
    have := cp_le r q
    unfold cp
    simp only [List.length_cons]
    split <;> omega
/-- there they differ, or one has ended -/
theorem cp_end : ∀ (a b : List Nat), a ≠ b → a[cp a b]? ≠ b[cp a b]?
  | [], [], h => absurd rfl h
  | [], b :: q, _ => by unfold cp; simp
  | a :: r, [], _ => by unfold cp; simp
  | a :: r, b :: q, h => by
    unfold cp
    split
    · rename_i e
      exact cp_end r q fun z => h (by rw [e, z])
    · rename_i e
      simpa using e
def code (c : Nat) : Nat := if 48 ≤ c ∧ c ≤ 57 then c - 48 else if c = 32 then 10 else if c = 40 then 11 else if c = 41 then 12 else if c = 94 then 13 else 14
theorem code_lt {c : Nat} (h : Sg c) : code c < 14 := by
  unfold code
  unfold Sg at h
  split
  · omega
  split
  · omega
  split
  · omega
  split
  · omega
  split
  · omega
  · omega
theorem code_inj {c d : Nat} (h : Sg c) (k : Sg d) (e : code c = code d) : c = d := by
  unfold code at e
  unfold Sg at h k
  rcases h with h | h | h | h | h <;> rcases k with k | k | k | k | k <;> simp_all <;> omega
def codeAt (t : List Nat) (i : Nat) : Nat := match t[i]? with
  | some c => code c
  | none => 14
theorem codeAt_some {t : List Nat} {i c : Nat} (h : t[i]? = some c) : codeAt t i = code c := by unfold codeAt; rw [h]
theorem codeAt_none {t : List Nat} {i : Nat} (h : t[i]? = none) : codeAt t i = 14 := by unfold codeAt; rw [h]
theorem codeAt_le {t : List Nat} (h : ∀ c ∈ t, Sg c) (i : Nat) : codeAt t i ≤ 14 := by
  cases e : t[i]? with
  | none => rw [codeAt_none e]; exact Nat.le_refl _
  | some c => rw [codeAt_some e]; exact Nat.le_of_lt (code_lt (h c (List.mem_of_getElem? e)))
theorem codeAt_ne {a b : List Nat} (ha : ∀ c ∈ a, Sg c) (hb : ∀ c ∈ b, Sg c) {i : Nat} (h : a[i]? ≠ b[i]?) : codeAt a i ≠ codeAt b i := by
  cases e : a[i]? with
  | none =>
    cases k : b[i]? with
    | none => rw [e, k] at h; exact absurd rfl h
    | some d =>
      rw [codeAt_none e, codeAt_some k]
      have := code_lt (hb d (List.mem_of_getElem? k))
      omega
  | some c =>
    have h1 := code_lt (ha c (List.mem_of_getElem? e))
    cases k : b[i]? with
    | none =>
      rw [codeAt_none k, codeAt_some e]
      omega
    | some d =>
      rw [codeAt_some e, codeAt_some k]
      intro z
      have := code_inj (ha c (List.mem_of_getElem? e)) (hb d (List.mem_of_getElem? k)) z
      rw [e, k, this] at h
      exact h rfl
def fmk (a b : List Nat) : Nat := 16 * cp a b + codeAt b (cp a b)
def fmt : List Nat → List (List Nat) → List Nat
  | _, [] => []
  | a, b :: r => fmk a b :: fmt b r
def fms : List (List Nat) → List Nat
  | [] => []
  | a :: r => codeAt a 0 :: fmt a r
theorem fmt_length : ∀ (a : List Nat) (l : List (List Nat)), (fmt a l).length = l.length
  | _, [] => rfl
  | a, b :: r => by show (fmt b r).length + 1 = r.length + 1; rw [fmt_length b r]
theorem fms_length (l : List (List Nat)) : (fms l).length = l.length := by
  cases l with
  | nil => rfl
  | cons a r => show (fmt a r).length + 1 = r.length + 1; rw [fmt_length]
theorem fmt_get : ∀ (a : List Nat) (l : List (List Nat)) (i : Nat) (x y : List Nat), (a :: l)[i]? = some x → (a :: l)[i + 1]? = some y → (fmt a l)[i]? = some (fmk x y)
  | a, [], i, x, y, _, h => by simp at h
  | a, b :: r, 0, x, y, h1, h2 => by
    simp at h1 h2
    subst h1; subst h2; rfl
  | a, b :: r, i + 1, x, y, h1, h2 => by
    show (fmt b r)[i]? = _
    exact fmt_get b r i x y h1 h2
theorem fms_get (l : List (List Nat)) (i : Nat) (x y : List Nat) (h1 : l[i]? = some x) (h2 : l[i + 1]? = some y) : (fms l)[i + 1]? = some (fmk x y) := by
  cases l with
  | nil => simp at h1
  | cons a r => exact fmt_get a r i x y h1 h2
/-- neighbours unlike -/
def UnlT : List (List Nat) → Prop
  | a :: b :: r => a ≠ b ∧ UnlT (b :: r)
  | _ => True
theorem fmk_ne {a b c : List Nat} (ha : ∀ x ∈ a, Sg x) (hb : ∀ x ∈ b, Sg x) (hc : ∀ x ∈ c, Sg x) (h1 : a ≠ b) (h2 : b ≠ c) : fmk a b ≠ fmk b c := fun e => by
  have l1 := codeAt_le hb (cp a b)
  have l2 := codeAt_le hc (cp b c)
  unfold fmk at e
  have ei : cp a b = cp b c := by omega
  have ec : codeAt b (cp a b) = codeAt c (cp b c) := by omega
  rw [ei] at ec
  exact codeAt_ne hb hc (cp_end b c h2) ec
theorem fmk_ne0 {a b : List Nat} (ha : ∀ x ∈ a, Sg x) (hb : ∀ x ∈ b, Sg x) (h : a ≠ b) : codeAt a 0 ≠ fmk a b := fun e => by
  have l1 := codeAt_le ha 0
  have l2 := codeAt_le hb (cp a b)
  unfold fmk at e
  have e0 : cp a b = 0 := by omega
  have k := cp_end a b h
  rw [e0] at k e
  exact codeAt_ne ha hb k (by omega)
theorem fmt_unl : ∀ (a : List Nat) (l : List (List Nat)), (∀ t ∈ a :: l, ∀ x ∈ t, Sg x) → UnlT (a :: l) → M07.Unl (fmt a l)
  | _, [], _, _ => trivial
  | _, [_], _, _ => trivial
  | a, b :: c :: r, hs, u => ⟨fmk_ne (hs a (by simp)) (hs b (by simp)) (hs c (by simp)) u.1 u.2.1, fmt_unl b (c :: r) (fun t ht => hs t (List.mem_cons_of_mem _ ht)) u.2⟩
theorem fms_unl (l : List (List Nat)) (hs : ∀ t ∈ l, ∀ x ∈ t, Sg x) (u : UnlT l) : M07.Unl (fms l) := by
  match l, hs, u with
  | [], _, _ => trivial
  | [_], _, _ => trivial
  | a :: b :: r, hs, u => exact ⟨fmk_ne0 (hs a (by simp)) (hs b (by simp)) u.1, fmt_unl a (b :: r) hs u⟩
theorem UnlT.get : ∀ {l : List (List Nat)} {i : Nat} {x y : List Nat}, UnlT l → l[i]? = some x → l[i + 1]? = some y → x ≠ y
  | [], _, _, _, _, h, _ => by simp at h
  | [_], i, _, _, _, _, h => by simp at h
  | a :: b :: r, 0, x, y, u, h1, h2 => by
    simp at h1 h2
    subst h1; subst h2; exact u.1
  | a :: b :: r, i + 1, x, y, u, h1, h2 => UnlT.get (l := b :: r) (i := i) u.2 (by simpa using h1) (by simpa using h2)
/-- unlike bases, unlike texts -/
theorem unlT_of {l : Nat} : ∀ {ns : List Nd}, OkAll ns l → Unb ns → UnlT (ns.map cd)
  | [], _, _ => trivial
  | [_], _, _ => trivial
  | a :: b :: r, ok, u => by
    unfold OkAll at ok
    have ok2 := ok.2
    unfold OkAll at ok2
    exact ⟨fun e => u.1 (by rw [cd_inj ok.1 ok2.1 e]), unlT_of (ns := b :: r) ok.2 u.2⟩
theorem cds_sgs (ns : List Nd) : ∀ t ∈ ns.map cd, ∀ x ∈ t, Sg x := fun t ht => by
  obtain ⟨n, _, rfl⟩ := List.mem_map.mp ht
  exact cd_sg n
mutual
theorem tl_txt : ∀ a : Nd, tl (txt a) = cd a
  | .el n => by
    unfold txt cd
    exact tl_num n
  | .run b c => by
    rw [show txt (.run b c) = txt b ++ Str.ofString "^" ++ numT c by rw [txt], cd_run, tl_append, tl_append, tl_txt b, List.append_assoc]
    have e1 : tl (Str.ofString "^") = [94] := by decide +kernel
    have e2 : tl (numT c) = numL c := tl_num c
    rw [e1, e2]
    rfl
  | .blk ps => by
    rw [show txt (.blk ps) = Str.ofString "(" ++ Txt.join " " (txts ps) ++ Str.ofString ")" by rw [txt], show cd (.blk ps) = 40 :: cds ps by rw [cd], tl_append, tl_append, join_eq, tl_join]
    have e1 : tl (Str.ofString "(") = [40] := by decide +kernel
    have e2 : tl (Str.ofString ")") = [41] := by decide +kernel
    have e3 : tl (Str.ofString " ") = [32] := by decide +kernel
    rw [e1, e2, e3, List.append_assoc]
    show 40 :: (joinL [32] ((txts ps).map tl) ++ [41]) = _
    rw [tl_txts ps]
theorem tl_txts : ∀ ps : List Nd, joinL [32] ((txts ps).map tl) ++ [41] = cds ps
  | [] => by
    rw [show txts [] = [] by rw [txts], show cds [] = [41] by rw [cds]]
    rfl
  | [a] => by
    rw [show txts [a] = [txt a] by rw [txts, txts], show cds [a] = cd a ++ cdt [] by rw [cds], show cdt [] = [41] by rw [cdt], ← tl_txt a]
    rfl
  | a :: b :: r => by
    rw [show txts (a :: b :: r) = txt a :: txts (b :: r) by rw [txts], show cds (a :: b :: r) = cd a ++ cdt (b :: r) by rw [cds], show cdt (b :: r) = 32 :: (cd b ++ cdt r) by rw [cdt], ← show cds (b :: r) = cd b ++ cdt r by rw [cds], ← tl_txts (b :: r), ← tl_txt a]
    rw [show txts (b :: r) = txt b :: txts r by rw [txts]]
    show tl (txt a) ++ ([32] ++ joinL [32] ((txt b :: txts r).map tl)) ++ [41] = _
    simp
end
theorem cd_len {a : Nd} : (cd a).length = (txt a).length := by rw [← tl_txt, len_tl]
/-- the sign's place in the program's list of signs -/
theorem sign_at {c : Nat} (h : Sg c) : ∃ rest, Builtin.Str.occurrences "0123456789 ()^" ⟨#[c]⟩ 0 (Str.ofString "0123456789 ()^").length 1 = code c :: rest := by
  unfold Sg at h
  have : c = 48 ∨ c = 49 ∨ c = 50 ∨ c = 51 ∨ c = 52 ∨ c = 53 ∨ c = 54 ∨ c = 55 ∨ c = 56 ∨ c = 57 ∨ c = 32 ∨ c = 40 ∨ c = 41 ∨ c = 94 := by omega
  rcases this with rfl | rfl | rfl | rfl | rfl | rfl | rfl | rfl | rfl | rfl | rfl | rfl | rfl | rfl <;> exact ⟨[], by decide +kernel⟩
/-- .. in the law's list, with one more sign -/
theorem sign_atL {c : Nat} (h : Sg c ∨ c = 36) : ∃ rest, Builtin.Str.occurrences "0123456789 ()^$" ⟨#[c]⟩ 0 (Str.ofString "0123456789 ()^$").length 1 = code c :: rest := by
  unfold Sg at h
  have : c = 48 ∨ c = 49 ∨ c = 50 ∨ c = 51 ∨ c = 52 ∨ c = 53 ∨ c = 54 ∨ c = 55 ∨ c = 56 ∨ c = 57 ∨ c = 32 ∨ c = 40 ∨ c = 41 ∨ c = 94 ∨ c = 36 := by omega
  rcases this with rfl | rfl | rfl | rfl | rfl | rfl | rfl | rfl | rfl | rfl | rfl | rfl | rfl | rfl | rfl <;> exact ⟨[], by decide +kernel⟩
end Loc
namespace Loc
open PySem PySem.Spec PyProof.Rows L2 TL
theorem cp_stop : ∀ (a b : List Nat) (x y : Nat), a[cp a b]? = some x → b[cp a b]? = some y → x ≠ y
  | [], _, x, y, h, _ => by simp at h
  | _ :: _, [], x, y, _, h => by simp at h
  | a :: r, b :: q, x, y, h, k => by
    unfold cp at h k
    split at h
    · rename_i e
      rw [if_pos e] at k
      exact cp_stop r q x y (by simpa using h) (by simpa using k)
    · rename_i e
      rw [if_neg e] at k
      have e1 : a = x := by simpa using h
      have e2 : b = y := by simpa using k
      rw [← e1, ← e2]
      exact e
abbrev vT (ns : List Nd) : List V := ns.map fun n => V.str (txt n)
theorem vT_get {ns : List Nd} {i : Nat} {n : Nd} (h : ns[i]? = some n) : (vT ns)[i]? = some (.str (txt n)) := by
  rw [List.getElem?_map, h]
  rfl
theorem one_sign {c d : Nat} : decide (V.str ⟨#[c]⟩ = V.str ⟨#[d]⟩) = decide (c = d) := by
  by_cases h : c = d
  · rw [h, decide_eq_true rfl, decide_eq_true rfl]
  · rw [decide_eq_false h, decide_eq_false (fun e => h (by
      injection e with e
      injection e with e
      have := congrArg (fun a => a.toList) e
      simpa using this))]
theorem len_cd {a : Nd} {l : Nat} (h : Ok a l) (hw : wide l ≤ 1000000) : (txt a).length ≤ 1000000 ∧ (txt a).length ≤ sizeLine := by
  have := txt_len a l h
  have : (txt a).length ≤ 1000000 := by split at this <;> omega
  exact ⟨this, Nat.le_trans this (by decide)⟩
end Loc

set_option Elab.async false
set_option linter.all false
set_option maxRecDepth 100000
namespace Loc
open PySem PySem.Spec PyProof.Rows L2
/-! ### list(range(a, b, c)); for x in r, r a range that is at hand -/
section
variable {X : Cx} {tg : Expr}
def tLstRg3 (ta : TA) : TE := fun σ H Q => ta σ H fun vs H1 => ∃ (i j c : Int) (n : Nat), vs = [.int i, .int j, .int c] ∧ RgC i j c n ∧ n ≤ 2 ^ 24 ∧ ∀ q, H1 q = none → Q (.ref q) (upd H1 q (.lst ((List.range n).map fun k => V.int (i + (k : Nat) * c))))
theorem vals_rgC {a c : Int} {n : Nat} {acc : Array Value} (h : ItemsOf (fun i v => ∃ t, v = .int (a + i * c) t) acc n) : Vals ((List.range n).map fun k => V.int (a + (k : Nat) * c)) acc.toList := by
  have e : acc.toList.length = n := by rw [Array.length_toList]; exact h.1
  rw [← e]
  refine vals_of_get acc.toList (fun k => V.int (a + (k : Nat) * c)) fun j u hj => ?_
  obtain ⟨t, rfl⟩ := h.2 j u (by rw [← hj, Array.getElem?_toList])
  exact ⟨t, rfl⟩
theorem pe_listRg3 {a b c : Expr} {ta : TA} {p p2 pos pos2 : Pos} (hc : X.calm = true) (hg : Gl X "list") (hm : X.mg "list" = none) (hg2 : Gl X "range") (hm2 : X.mg "range" = none) (ha : PA X [a, b, c] ta)
    (na : starEach [(.Call (.Name "range" p2) [a, b, c] [] pos2)] X.env = (false, eval (.Call (.Name "range" p2) [a, b, c] [] pos2) X.env) :: starEach [] X.env := by rfl)
    (hs : starEach [a, b, c] X.env = (false, eval a X.env) :: starEach [b, c] X.env := by rfl) (hpl : (backTo pos2 (starEach [b, c] X.env)).any (·.1) = false := by rfl) :
    PE X (.Call (.Name "list" p) [.Call (.Name "range" p2) [a, b, c] [] pos2] [] pos) (tLstRg3 ta) := by
  refine ⟨fun pins s σ H Q I h => ?_⟩
  have inner : wpAny (model X.prog X.w) X.A (eval (.Call (.Name "range" p2) [a, b, c] [] pos2) X.env) (fun x s' => ∃ r i j k n t u v H', x = .ref r ∧ IsRange s'.heap r i j k t u v ∧ Inv X pins σ H' s' ∧ RgC i j k n ∧ n ≤ 2 ^ 24 ∧
      ∀ q, H' q = none → Q (.ref q) (upd H' q (.lst ((List.range n).map fun z => V.int (i + (z : Nat) * k))))) X.xe s := by
    refine Call_ (ld_blt I hg2 hm2 boot_range (PyProof.Rows.callWith_type1 (thn (ha.run pos2 pins s σ H _ I h) fun us s1 ⟨vs, H1, I1, r1, q1⟩ => ?_) hs hpl))
    obtain ⟨i, j, k, n, e, ⟨c0, c1, c2, c3⟩, hn, q⟩ := q1
    subst e
    cases r1 with
    | cons r rr =>
      cases rr with
      | cons r' rr =>
        cases rr with
        | cons r'' rr =>
          cases rr
          obtain ⟨t, rfl⟩ := r
          obtain ⟨t', rfl⟩ := r'
          obtain ⟨t'', rfl⟩ := r''
          refine call_range_3 c0 ?_ (.inl (PyProof.noPylong_small c1))
          exact ⟨_, i, j, k, n, _, _, _, H1, rfl, IsRange.new _ _ _ _ _ _ _, I1.kept (t' := s1.toks) fun b o e => Heap.get?_push_of_some _ e, ⟨c0, c1, c2, c3⟩, hn, q⟩
  refine Call_ (ld_blt I hg hm boot_list (PyProof.Rows.callWith_type1 (args_cons (thn inner fun x s1 ⟨r, i, j, k, n, t, u, v, H1, ex, hr, I1, ok, hn, q⟩ => args_nil ?_) na) na))
  subst ex
  obtain ⟨c0, c1, c2, c3⟩ := ok
  refine call_list_range (n := n) (I1.ok.hd hc) hr c2 c3 hn fun h' tk acc c' hk e' hi => ?_
  refine ⟨.ref s1.heap.objs.size, upd H1 s1.heap.objs.size (.lst ((List.range n).map fun z => V.int (i + (z : Nat) * k))), I1.laid hk (Nat.le_refl _) (show ObjOk X.prog X.w _ _ _ (.lst _) from ⟨?_, acc.toList, c', vals_rgC hi, ?_⟩), rfl, q _ (I1.hok.fresh (Nat.le_refl _))⟩
  · rw [List.length_map, List.length_range, sizeLine_eq]; omega
  · rw [Array.toArray_toList]; exact e'
/-- a range that is at hand -/
def iRngV (te : TE) : TI := fun σ H R => te σ H fun x H1 => ∃ r lo hi, x = .ref r ∧ H1 r = some (.rng lo hi) ∧ (-(2 ^ 62) ≤ lo ∧ lo < 2 ^ 62 ∧ -(2 ^ 62) ≤ hi ∧ hi < 2 ^ 62) ∧ R (Itr lo (hi - lo).toNat) H1
theorem pi_rngV {e : Expr} {te : TE} (he : PE X e te) : PI X tg e (iRngV te) := by
  refine ⟨fun pins s σ H R I h => ?_⟩
  refine thn (he.run pins s σ H _ I h) fun v s1 ⟨x, H1, I1, r1, q1⟩ => ?_
  obtain ⟨r, lo, hi, rfl, hr, ⟨h1, h2, h3, h4⟩, q⟩ := q1
  cases r1
  obtain ⟨t, u, v, eo⟩ := I1.hok r _ hr
  refine wpAny_pyIter_range (t := t) (u := u) (v := v) eo (small_one h1 h2 h3 h4) ?_
  refine ⟨s1.heap.objs.size, [s1.heap.objs.size], _, _, H1, rfl, I1.kept (t' := s1.toks) fun b o e => Heap.get?_push_of_some _ e, turn_range _ lo (hi - lo).toNat, ?_, fun b hb => ?_, q⟩
  · have e1 : lo + ((0 : Nat) : Int) * 1 = lo := by simp
    have e2 : (((hi - lo).toNat : Nat) : Int) - ((0 : Nat) : Int) = Builtin.Range.rangeSize lo hi 1 := by rw [rangeSize_one]; split <;> omega
    show IsRangeIter _ _ (lo + ((0 : Nat) : Int) * 1) ((((hi - lo).toNat : Nat) : Int) - ((0 : Nat) : Int)) 1
    rw [e1, e2]
    exact Heap.get?_push_size _ rfl
  · have e : b = s1.heap.objs.size := by simpa using hb
    subst e
    exact I1.fpOk (Nat.le_refl _) (I1.hok.fresh (Nat.le_refl _))
end
theorem rgC_two {b d : Nat} (hd : 2 ≤ d) (h : b + d < 2 ^ 30) : RgC (b : Int) (((b + d : Nat) : Int) - 1) 2 (d / 2) := by
  have e : Builtin.Range.rangeSize (b : Int) (((b + d : Nat) : Int) - 1) 2 = ((d / 2 : Nat) : Int) := by
    unfold Builtin.Range.rangeSize
    rw [if_pos (by decide), if_pos (by omega)]
    omega
  refine ⟨by decide, by decide, ?_, e⟩
  unfold Builtin.Range.small
  rw [e]
  simp only [Builtin.Range.rangeFitsLong, Bool.and_eq_true, Bool.or_eq_true, decide_eq_true_eq, beq_iff_eq, show (2 : Int) > 0 by decide, if_true]
  omega
end Loc

set_option linter.all false
/-! pieces of a row: peaks, stretches, cuts -/
namespace M10
def pk (ms : List Nat) (i : Nat) : Bool := match ms[i - 1]?, ms[i]?, ms[i + 1]? with
  | some a, some b, some c => decide (a < b) && decide (c < b)
  | _, _, _ => false
def pks (ms : List Nat) : List Nat := (List.range' 2 (ms.length - 3)).filter (pk ms)
theorem pk_no {ms : List Nat} {i : Nat} (h : pk ms i = true) : pk ms (i + 1) = false := by
  unfold pk at h ⊢
  rw [Nat.add_sub_cancel]
  cases h0 : ms[i - 1]? with
  | none => rw [h0] at h; exact absurd h (by simp)
  | some a =>
    cases h1 : ms[i]? with
    | none => simp [h0, h1] at h
    | some b =>
      cases h2 : ms[i + 1]? with
      | none => simp
      | some c =>
        rw [h0, h1, h2] at h
        simp only [Bool.and_eq_true, decide_eq_true_eq] at h
        cases h3 : ms[i + 1 + 1]? with
        | none => simp
        | some d =>
          simp only [Bool.and_eq_false_iff, decide_eq_false_iff_not]
          omega
def Gap (n : Nat) : Nat → List Nat → Prop
  | b, [] => b + 2 ≤ n
  | b, t :: r => b + 2 ≤ t ∧ Gap n t r
theorem gap_filter {p : Nat → Bool} (hp : ∀ i, p i = true → p (i + 1) = false) (n : Nat) : ∀ k s b, (b + 2 ≤ s ∨ (b + 1 ≤ s ∧ p s = false)) → s + k + 1 ≤ n → b + 2 ≤ n → Gap n b ((List.range' s k).filter p)
  | 0, s, b, _, _, h => h
  | k + 1, s, b, h1, h2, h3 => by
    rw [List.range'_succ]
    cases e : p s with
    | true =>
      rw [List.filter_cons_of_pos e]
      refine ⟨?_, gap_filter hp n k (s + 1) s (.inr ⟨Nat.le_refl _, hp s e⟩) (by omega) (by omega)⟩
      rcases h1 with h1 | ⟨_, h1⟩
      · exact h1
      · rw [e] at h1; cases h1
    | false =>
      rw [List.filter_cons_of_neg (by rw [e]; simp)]
      exact gap_filter hp n k (s + 1) b (.inl (by rcases h1 with h1 | h1 <;> omega)) (by omega) h3
theorem pks_gap {ms : List Nat} (h : 2 ≤ ms.length) : Gap ms.length 0 (pks ms) := by
  unfold pks
  by_cases z : ms.length ≤ 3
  · rw [show ms.length - 3 = 0 by omega]
    exact h
  · exact gap_filter (p := pk ms) (fun i h => pk_no h) ms.length (ms.length - 3) 2 0 (.inl (Nat.le_refl _)) (by omega) h
/-- the pieces of the stretch of d nodes from b on -/
def str : Nat → Nat → List (Nat × Nat)
  | d + 4, b => (b, b + 2) :: str (d + 2) (b + 2)
  | d, b => [(b, b + d)]
def stz (z : Nat × Nat) : List (Nat × Nat) := str (z.2 - z.1) z.1
def sts (n : Nat) : Nat → List Nat → List (Nat × Nat)
  | b, [] => [(b, n)]
  | b, t :: r => (b, t) :: sts n t r
def pcs (n : Nat) (tops : List Nat) : List (Nat × Nat) := (sts n 0 tops).flatMap stz
theorem sts_fst (n : Nat) : ∀ b tops, (sts n b tops).map (·.1) = b :: tops
  | b, [] => rfl
  | b, t :: r => by rw [sts, List.map_cons, sts_fst n t r]
theorem sts_snd (n : Nat) : ∀ b tops, (sts n b tops).map (·.2) = tops ++ [n]
  | b, [] => rfl
  | b, t :: r => by rw [sts, List.map_cons, sts_snd n t r]; rfl
theorem sts_gap {n : Nat} : ∀ {b : Nat} {tops : List Nat}, Gap n b tops → ∀ z ∈ sts n b tops, z.1 + 2 ≤ z.2 ∧ z.2 ≤ n
  | b, [], h, z, hz => by
    have : z = (b, n) := by simpa [sts] using hz
    rw [this]
    exact ⟨h, Nat.le_refl _⟩
  | b, t :: r, h, z, hz => by
    have le : ∀ {b : Nat} {r : List Nat}, Gap n b r → b ≤ n := by
      intro b r
      induction r generalizing b with
      | nil => intro h; have : b + 2 ≤ n := h; omega
      | cons t r ih => intro h; have := ih h.2; have := h.1; omega
    rcases List.mem_cons.mp hz with e | hz
    · rw [e]
      exact ⟨h.1, le h.2⟩
    · exact sts_gap h.2 z hz
def Cont : Nat → Nat → List (Nat × Nat) → Prop
  | b, n, [] => b = n
  | b, n, z :: r => z.1 = b ∧ b + 2 ≤ z.2 ∧ z.2 ≤ b + 3 ∧ Cont z.2 n r
theorem str_cont : ∀ d b, 2 ≤ d → Cont b (b + d) (str d b)
  | 0, _, h => by omega
  | 1, _, h => by omega
  | 2, b, _ => ⟨rfl, Nat.le_refl _, by show b + 2 ≤ b + 3; omega, rfl⟩
  | 3, b, _ => ⟨rfl, by show b + 2 ≤ b + 3; omega, Nat.le_refl _, rfl⟩
  | d + 4, b, _ => by
    refine ⟨rfl, Nat.le_refl _, by show b + 2 ≤ b + 3; omega, ?_⟩
    have := str_cont (d + 2) (b + 2) (by omega)
    rw [show b + (d + 4) = b + 2 + (d + 2) by omega]
    exact this
theorem Cont.app : ∀ {xs ys : List (Nat × Nat)} {b t n : Nat}, Cont b t xs → Cont t n ys → Cont b n (xs ++ ys)
  | [], _, b, t, n, h, k => by have h : b = t := h; rw [h]; exact k
  | z :: r, ys, b, t, n, h, k => ⟨h.1, h.2.1, h.2.2.1, Cont.app h.2.2.2 k⟩
theorem sts_cont {n : Nat} : ∀ {b : Nat} {tops : List Nat}, Gap n b tops → Cont b n ((sts n b tops).flatMap stz)
  | b, [], h => by
    have h : b + 2 ≤ n := h
    show Cont b n (stz (b, n) ++ [])
    rw [List.append_nil]
    have := str_cont (n - b) b (by omega)
    rw [show b + (n - b) = n by omega] at this
    exact this
  | b, t :: r, h => by
    rw [sts, List.flatMap_cons]
    have := str_cont (t - b) b (by have := h.1; omega)
    rw [show b + (t - b) = t by have := h.1; omega] at this
    exact Cont.app this (sts_cont h.2)
theorem Cont.ends : ∀ {r : List (Nat × Nat)} {z : Nat × Nat} {b n : Nat}, Cont b n (z :: r) → r.map (·.1) ++ [n] = (z :: r).map (·.2)
  | [], z, b, n, h => by have := h.2.2.2; have this : z.2 = n := this; simp [this]
  | y :: r, z, b, n, h => by
    have := Cont.ends (r := r) (z := y) h.2.2.2
    have e : y.1 = z.2 := h.2.2.2.1
    rw [List.map_cons, List.cons_append, this, e]
    rfl
theorem Cont.bnd : ∀ {r : List (Nat × Nat)} {b n : Nat}, Cont b n r → b ≤ n ∧ ∀ z ∈ r, z.1 + 2 ≤ z.2 ∧ z.2 ≤ z.1 + 3 ∧ z.2 ≤ n
  | [], b, n, h => ⟨Nat.le_of_eq h, fun z hz => nomatch hz⟩
  | y :: r, b, n, h => by
    have k := Cont.bnd h.2.2.2
    have := h.1
    have := h.2.1
    have := h.2.2.1
    refine ⟨by omega, fun z hz => ?_⟩
    rcases List.mem_cons.mp hz with e | hz
    · rw [e]; omega
    · exact k.2 z hz
theorem Cont.len : ∀ {r : List (Nat × Nat)} {b n : Nat}, Cont b n r → b + 2 * r.length ≤ n
  | [], b, n, h => Nat.le_of_eq h
  | y :: r, b, n, h => by
    have k := Cont.len h.2.2.2
    have := h.2.1
    rw [List.length_cons]
    omega
theorem str_fst : ∀ d b, 2 ≤ d → (str d b).map (·.1) = (List.range (d / 2)).map fun k => b + k * 2
  | 0, _, h => by omega
  | 1, _, h => by omega
  | 2, b, _ => rfl
  | 3, b, _ => rfl
  | d + 4, b, _ => by
    have := str_fst (d + 2) (b + 2) (by omega)
    rw [str, List.map_cons, this, show (d + 4) / 2 = (d + 2) / 2 + 1 by omega, List.range_succ_eq_map, List.map_cons, List.map_map]
    have e : (List.map (fun k => b + 2 + k * 2) (List.range ((d + 2) / 2))) = List.map ((fun k => b + k * 2) ∘ Nat.succ) (List.range ((d + 2) / 2)) := List.map_congr_left fun k _ => by
      show b + 2 + k * 2 = b + (k + 1) * 2
      omega
    rw [e]
    simp
end M10

set_option Elab.async false
set_option linter.all false
set_option maxRecDepth 100000
namespace Loc
open PySem PySem.Spec PyProof.Rows L2
/-! ### l.extend(t), t a tuple -/
theorem ext_tup (l b : Addr) (xs ys : Array Value) (n n2 : Nat) (dd : Option Addr) (sl : Array (Option Value)) (h1 : ¬ (!xs.isEmpty && Builtin.List.listTooLong (xs.size + ys.size)) = true) (h2 : xs.size ≤ sizeLine) (h3 : xs.size + ys.size ≤ sizeLine + 1) :
    Meets (Builtin.«list.extend» ⟨[.ref l, .ref b], []⟩) (fun _ R s => s.heap.get? l = some { cls := .type "list", dict := none, data := .seq xs n, slots := #[] } ∧ s.heap.get? b = some { cls := .type "tuple", dict := dd, data := .seq ys n2, slots := sl } ∧
      R (.ok (.ret Value.none)) { s with heap := s.heap.update l (Obj.mapSeq fun x => x ++ ys), toks := s.toks }) := .of_wp fun prog w A R s h => by
  obtain ⟨hp, g, d, tk, os⟩ := s
  obtain ⟨hl, hb, h⟩ := h
  have f2 := sub_tuple_tuple
  have f3 := sub_list_list
  have f4 := sub_tuple_list
  have f5 := sub_list_tuple
  have z : (xs ++ ys).size ≤ sizeLine + 1 := by rw [Array.size_append]; exact h3
  wp_walk using (wpAny_updateSeq hl rfl (hz := h2) (_hz' := z)), wpAny_loadPart' hl, wpAny_loadPart' hb
  exact ⟨_, rfl, h⟩
section
variable {X : Cx}
def rExtendT (K : PySem.W.Frag) : V → List V → Hp → VK → Prop := fun x vs H Q => ∃ l b xs zs, x = .ref l ∧ vs = [.ref b] ∧ H l = some (.lst xs) ∧ SqT K H b zs ∧ xs.length + zs.length ≤ sizeLine ∧ Q .non (upd H l (.lst (xs ++ zs)))
theorem mt_extendT : MtM X "list.extend" (rExtendT X.K) := by
  intro pins s σ H x vs v us Q I rx rv h
  obtain ⟨l, b, xs, zs, rfl, rfl, hH, hB, hz, q⟩ := h
  cases rx
  obtain ⟨u, rfl, ru⟩ := rv.one
  cases ru
  obtain ⟨z, its, n, r, hl, e⟩ := I.lstM hH
  obtain ⟨its2, r2, p2, z2⟩ := I.tuple hB
  have hl2 := r2.length
  have hsz : its.toArray.size + its2.toArray.size ≤ sizeLine := by rw [List.size_toArray, List.size_toArray]; omega
  have hlong : ¬ (!its.toArray.isEmpty && Builtin.List.listTooLong (its.toArray.size + its2.toArray.size)) = true := by
    rw [notLongL hsz, Bool.and_false]
    exact Bool.false_ne_true
  obtain ⟨⟨cls, dd, data, sl⟩, ho, hc, n2, hd⟩ := id p2
  simp only at hc hd
  subst hc hd
  refine call_meets F.slot_list_extend ⟨_, e, rfl⟩ F.entry_list_extend (F.args_list_extend_2 _ _)
    (ext_tup l b its.toArray its2.toArray n n2 dd sl hlong (by rw [List.size_toArray]; omega) (by omega)) ⟨e, ho, ?_⟩
  refine ⟨.non, _, I.lset (its' := its ++ its2) hH e (by simp) (r.append r2) ?_, rfl, q⟩
  rw [List.length_append]
  omega
end
end Loc

set_option Elab.async false
set_option linter.all false
set_option maxRecDepth 100000
set_option maxHeartbeats 4000000
namespace Loc
open PySem PySem.Spec PyProof.Rows L2
theorem tuple_mul1 (l : Addr) (items : Array Value) (n : Nat) (dd : Option Addr) (sl : Array (Option Value)) (u : Tok) :
    Meets (Builtin.«tuple.__mul__» ⟨[.ref l, .int 1 u], []⟩) (fun _ R s => s.heap.get? l = some { cls := .type "tuple", dict := dd, data := .seq items n, slots := sl } ∧ R (.ok (.ret (Value.ref l))) s) :=
  .of_wp fun prog w A R s h => by
    obtain ⟨hp, g, d, tk, os⟩ := s
    obtain ⟨hl, h⟩ := h
    have f1 := AutoSeq1.idx_int
    wp_walk using wpAny_loadPart' hl
    exact ⟨_, rfl, h⟩
def rRepT1 (K : PySem.W.Frag) : R2 := fun x y H Q => ∃ l k xs, x = .ref l ∧ y = .int k ∧ SqT K H l xs ∧ xs ≠ [] ∧ 1 ≤ k ∧ k ≤ 1000 ∧ xs.length ≤ 1000 ∧ ∀ H' p, Same H H' → SqT K H' p (List.replicate k.toNat xs).flatten → Q (.ref p) H'
theorem op_repT1 {X : Cx} : OpR X (binaryOp .Mult) (rRepT1 X.K) := by
  intro pins s σ H x y v u Q I rx ry h
  obtain ⟨l, k, xs, rfl, rfl, hT, hne, h1, h2, hz, q⟩ := h
  by_cases k1 : k = 1
  · subst k1
    cases rx
    obtain ⟨t, rfl⟩ := ry
    obtain ⟨its, r, ⟨⟨cls, dd, data, sl⟩, ho, hc, n, hd⟩, hs⟩ := I.tuple hT
    simp only at hc hd
    subst hc hd
    refine wpAny_binaryOp_repeat_ref (T := "tuple") (U := "int") (by decide) ⟨_, ho, rfl⟩ (fun s' => typeIs_int s' 1 t) noFill_tuple_mul PySem.F.fills_int_mul PySem.F.slot_int_rmul repeat_tuple PySem.F.slot_int_index.lookup
      (call_meets PySem.F.slot_int_rmul (typeIs_int s 1 t) PySem.F.entry_int_rmul (PySem.F.args_int_rmul_2 _ _) (int_rmul_tuple 1 t l its.toArray n dd sl)
        ⟨ho, rfl, ⟨_, ho, rfl⟩, call_meets PySem.F.slot_tuple_mul ⟨_, ho, rfl⟩ PySem.F.entry_tuple_mul (PySem.F.args_tuple_mul_2 _ _) (tuple_mul1 l its.toArray n dd sl t) ⟨ho, ?_⟩⟩)
    refine ⟨.ref l, H, I, rfl, q H l (Same.refl H) ?_⟩
    rw [show (1 : Int).toNat = 1 from rfl]
    simpa using hT
  · exact op_repT pins s σ H _ _ v u Q I rx ry ⟨l, k, xs, rfl, rfl, hT, hne, by omega, h2, hz, fun p hp => q _ p (sameN hp) (.inl (.inl upd_same))⟩
end Loc

set_option Elab.async false
set_option linter.all false
set_option maxRecDepth 100000
set_option maxHeartbeats 4000000
namespace Loc
open PySem PySem.Spec PyProof.Rows L2
open AutoSeq1 (wpAny_loadPart')
/-! ### enumerate(t), t a tuple -/
theorem meets_enum_newT (l : Addr) (items : Array Value) (n : Nat) (dct : Option Addr) (sl : Array (Option Value)) :
    Meets (Builtin.«enumerate.__new__» ⟨[.type "enumerate", .ref l], []⟩) (fun _ R s => s.heap.get? l = some { cls := .type "tuple", dict := dct, data := .seq items n, slots := sl } ∧
      R (.ok (.ret (.ref (s.heap.push { cls := .type "tuple_iterator", data := .fields #[.ref l, .int 0 0] }).objs.size)))
        { s with heap := (s.heap.push { cls := .type "tuple_iterator", data := .fields #[.ref l, .int 0 0] }).push { cls := .type "enumerate", data := .fields #[.none, .bool false, .ref s.heap.objs.size, rawInt 0, .none, .none] } }) :=
  .of_wp fun prog w A R s h => by
    obtain ⟨hp, g, d, tk, os⟩ := s
    obtain ⟨hl, h⟩ := h
    have hsub := sub_enumerate
    have hL : Heap.IsTuple (Shared.heap ⟨hp, g, d, tk, os⟩) l items := ⟨_, hl, rfl, n, rfl⟩
    wp_walk using wpAny_loadPart' hl
    refine wpAny_stack_any fun st => wpAny_pure ?_
    split
    · rename_i c _ _ _ _ _
      cases (c == Value.type "enumerate")
      · wp_walk using wpAny_loadPart' hl, wpAny_pyIter_tuple hL
        exact ⟨_, rfl, h⟩
      · wp_walk using wpAny_loadPart' hl, wpAny_pyIter_tuple hL
        exact ⟨_, rfl, h⟩
    · wp_walk using wpAny_loadPart' hl, wpAny_pyIter_tuple hL
      exact ⟨_, rfl, h⟩
section
variable {prog : Program} {w : World} {A : Around} {E : Value → Shared → Prop} {s : Shared}
theorem call_enum_tup {l : Addr} {items : Array Value} {Q : Value → Shared → Prop} (hL : s.heap.IsTuple l items)
    (h : ∀ h', IsEnum h' (s.heap.objs.size + 1) s.heap.objs.size 0 .none → h'.IsTupleIter s.heap.objs.size l 0 → h'.objs.size = s.heap.objs.size + 2 →
      (∀ b o, s.heap.get? b = some o → h'.get? b = some o) → Q (.ref (s.heap.objs.size + 1)) { s with heap := h' }) :
    wpAny (model prog w) A (call (.type "enumerate") [.ref l]) Q E s := by
  obtain ⟨⟨c, dct, dt, sl⟩, hl, hc, n, hd⟩ := hL
  replace hc : c = .type "tuple" := hc
  replace hd : dt = .seq items n := hd
  subst hc hd
  refine callType_new PySem.F.called_enumerate (by decide) (PySem.F.typeCall_enumerate_1 _) (PySem.F.newCall_enumerate_1 _) (fun obj => PySem.F.args_object_init_2 obj _) PySem.F.entry_enumerate_new
    (meets_enum_newT l items n dct sl) ⟨hl, ?_⟩
  have hz : (s.heap.push { cls := .type "tuple_iterator", data := .fields #[.ref l, .int 0 0] }).objs.size = s.heap.objs.size + 1 := Heap.size_push ..
  show _ ∧ _
  rw [hz]
  have he : IsEnum ((s.heap.push { cls := .type "tuple_iterator", data := .fields #[.ref l, .int 0 0] }).push
      { cls := .type "enumerate", data := .fields #[.none, .bool false, .ref s.heap.objs.size, rawInt 0, .none, .none] }) (s.heap.objs.size + 1) s.heap.objs.size 0 .none := by
    have := Heap.get?_push_size (s.heap.push { cls := .type "tuple_iterator", data := .fields #[.ref l, .int 0 0] })
      (o := { cls := .type "enumerate", data := .fields #[.none, .bool false, .ref s.heap.objs.size, rawInt 0, .none, .none] }) rfl
    rw [hz] at this; exact this
  refine ⟨⟨_, he, rfl⟩, h _ he ⟨_, Heap.get?_push_of_some _ (Heap.get?_push_size _ rfl), rfl, rfl⟩ (by rw [Heap.size_push, hz]) fun b o x => Heap.get?_push_of_some _ (Heap.get?_push_of_some _ x)⟩
end
theorem enumT_end {prog : Program} {w : World} {A : Around} {E : Value → Shared → Prop} {s : Shared} {e it l : Addr} {i : Nat} {items : Array Value} {old : Value} {Q : Option Value → Shared → Prop} (hh : A.handled = none)
    (he : IsEnum s.heap e it i old) (hit : s.heap.IsTupleIter it l i) (hl : s.heap.IsTuple l items) (hx : items[i]? = none)
    (hQ : ∀ h', Heap.ExtBut it s.heap h' → Q none { s with heap := h' }) : wpAny (model prog w) A (pyNext (.ref e)) Q E s := by
  have hT : s.TypeIs (.ref e) "enumerate" := ⟨_, he, rfl⟩
  unfold pyNext
  refine wpAny_bind (wpAny_attempt (wpAny_callSpecial?_slot (name := Str.ofString "__next__") hT PySem.F.slot_enumerate_next
    (wpAny_call_entry PySem.F.slot_enumerate_next hT PySem.F.entry_enumerate_next ?_ (PySem.F.args_enumerate_next_1 _))))
  show wpAny _ _ (field (.ref e) 2 >>= _) _ _ _
  refine wpAny_bind (wpAny_field he rfl (x := .ref it) rfl ?_)
  refine wpAny_bind (wpAny_nextOf_tuple_end hh hit hl hx fun h' x he' hx' => ?_)
  obtain ⟨o, ho, hc⟩ := hx'
  refine wpAny_bind (wpAny_isInstance (T := "StopIteration") (b := true) ⟨o, ho, hc⟩ isSubtype_stop ?_)
  exact wpAny_pure (hQ _ he')
/-- the tuple at a, each item in a new pair -/
def IteT (K : PySem.W.Frag) (a : Addr) : It :=
  ⟨fun i H => ∃ (xs : List V) (x : V), SqT K H a xs ∧ xs[i]? = some x, fun i H v H' => ∃ T x, v = .ref T ∧ H T = none ∧ H' = upd H T (.tup [.int (i : Nat), x]) ∧ ∀ xs, SqT K H a xs → xs[i]? = some x, fun i H => ∃ xs : List V, SqT K H a xs ∧ xs.length ≤ i⟩
theorem turn_enumT {P : Program} {w : World} {K : PySem.W.Frag} {elts : List Expr} {kk : Nat} {tpos : Pos} (a e it : Addr) :
    Turn P w K (.Tuple elts kk tpos) (IteT K a) [e, it] e (fun i h => (∃ old, IsEnum h e it ((i : Nat) : Int) old) ∧ h.IsTupleIter it a i ∧ e ≠ it ∧ a ≠ it ∧ a ≠ e) where
  mem := by simp
  obj := fun i h st b hb => by
    obtain ⟨⟨old, he⟩, ⟨o, ho, hc, hd⟩, _⟩ := st
    have e' : b = e ∨ b = it := by simpa using hb
    rcases e' with z | z
    · rw [z]; exact ⟨_, he, fun v q => nomatch q⟩
    · rw [z]; exact ⟨o, ho, fun v q => by rw [hd] at q; cases q⟩
  keep := fun i h h' st k => let ⟨⟨old, he⟩, hi, hne⟩ := st; ⟨⟨old, k e (by simp) _ he⟩, hi.at fun o q => k it (by simp) o q, hne⟩
  item := by
    intro X hP hw hK hc i pins s σ H E I hf st hg
    subst hP hw hK
    obtain ⟨⟨old, he⟩, hit, hne, hai, hae⟩ := st
    obtain ⟨xs, x, hq, hx⟩ := hg
    obtain ⟨its, rv, p, hz⟩ := I.tuple hq
    obtain ⟨u, hu, ru⟩ := rv.get hx
    have hel : e < s.heap.objs.size := Heap.lt_size he
    have hil : it < s.heap.objs.size := by obtain ⟨_, q, _⟩ := hit; exact Heap.lt_size q
    have pT : s.heap.IsTuple a its.toArray := p
    have hlt : i < its.toArray.size := by
      have := (List.getElem?_eq_some_iff.mp hu).1
      simpa using this
    refine wpAny_pyNext_enum_itemD (Draws.tuple (A := X.A.in1) (by first | exact I.ok.hd hc | exact (I.ok.hd hc)) it a hai its.toArray) he ⟨hit, pT⟩ hlt hne (by simp [hne, hae.symm]) fun x' h' tk hx' ho hst' hT hsz hk => ?_
    have ex : x' = u := by
      have : its.toArray[i]? = some u := by simpa using hu
      exact Option.some.inj (hx'.symm.trans this)
    subst ex
    refine ⟨_, rfl, wpAny_letOwnedTupleGo_enum (s := { s with heap := h', toks := tk + 1 }) ho fun h'' he' sb => ?_⟩
    have hT2 : h''.get? s.heap.objs.size = some { cls := .type "tuple", data := .seq #[.int i tk, x'] } := (sb.2 _ (Nat.ne_of_gt hel)).trans hT
    have new : ObjOk X.prog X.w (upd H s.heap.objs.size (.tup [.int (i : Nat), x])) h'' s.heap.objs.size (.tup [.int (i : Nat), x]) :=
      ⟨by show 2 ≤ sizeLine; decide, [.int i tk, x'], .cons ⟨_, rfl⟩ (.cons ru .nil), ⟨_, hT2, rfl, _, rfl⟩⟩
    have I1 : Inv X pins σ (upd H s.heap.objs.size (.tup [.int (i : Nat), x])) { s with heap := h'', toks := tk + 1 } :=
      I.turnedNew (ch := [e, it]) (fun b ob hb q => (sb.2 b (fun z => hb (by simp [z]))).trans (hk b ob (fun z => hb (by simp [z])) (fun z => hb (by simp [z])) q)) hf (Nat.le_refl _) new
    refine ⟨.ref s.heap.objs.size, _, I1, rfl, ⟨_, x, rfl, I.hok.fresh (Nat.le_refl _), rfl, fun ys hy => by rw [I.tuple_inj hy hq]; exact hx⟩, ⟨⟨x', ?_⟩, hst'.1.at fun o q => (sb.2 it (Ne.symm hne)).trans q, hne, hai, hae⟩, fun b hb => ?_⟩
    · have e1 : ((i + 1 : Nat) : Int) = (i : Int) + 1 := by omega
      rw [e1]; exact he'
    · have hb' : b < s.heap.objs.size := by
        have e' : b = e ∨ b = it := by simpa using hb
        rcases e' with z | z
        · rw [z]; exact hel
        · rw [z]; exact hil
      rw [upd_ne (Nat.ne_of_lt hb')]
      exact (hf b hb).1
  done := by
    intro X hP hw hK hc i pins s σ H E I hf st hg
    subst hP hw hK
    obtain ⟨⟨old, he⟩, hit, hne, hai, hae⟩ := st
    obtain ⟨xs, hq, hx⟩ := hg
    obtain ⟨its, rv, p, hz⟩ := I.tuple hq
    obtain ⟨f0, f1, f2, f3, f4, f5⟩ := hf it (by simp)
    have hl := rv.length
    have pT : s.heap.IsTuple a its.toArray := p
    exact enumT_end (I.ok.hd hc) he hit pT (by simp; omega) fun h' eb => ⟨rfl, I.turned (t' := s.toks) (fun b o hb q => eb b o hb q) f0 f1 f3 f4 f5⟩
  self := fun A i s Q E st h => let ⟨⟨_, he⟩, _⟩ := st; wpAny_pyIter_enum he h
def iEnumT (K : PySem.W.Frag) (ta : TA) : TI := fun σ H R => ta σ H fun vs H1 => ∃ a xs, vs = [.ref a] ∧ SqT K H1 a xs ∧ R (IteT K a) H1
theorem pi_enumT {X : Cx} {e : Expr} {ta : TA} {p pos tpos : Pos} {elts : List Expr} {kk : Nat} (hg : Gl X "enumerate") (hm : X.mg "enumerate" = none) (ha : PA X [e] ta) (hs : starEach [e] X.env = [(false, eval e X.env)] := by rfl) :
    PI X (.Tuple elts kk tpos) (.Call (.Name "enumerate" p) [e] [] pos) (iEnumT X.K ta) := by
  refine ⟨fun pins s σ H R I h => ?_⟩
  refine Call_ (ld_blt I hg hm boot_enumerate (PyProof.Rows.callWith_type1 (thn (ha.run pos pins s σ H _ I h) fun us s1 ⟨vs, H1, I1, r1, q1⟩ => ?_) hs rfl))
  obtain ⟨a, xs, ex, hq, q⟩ := q1
  subst ex
  cases r1 with
  | cons r rr =>
    cases rr
    cases r
    obtain ⟨its, rv, p', hz⟩ := I1.tuple hq
    have pT : s1.heap.IsTuple a its.toArray := p'
    have al : a < s1.heap.objs.size := by obtain ⟨_, q, _⟩ := pT; exact Heap.lt_size q
    refine call_enum_tup pT fun h' he hit hsz hk => wpAny_pyIter_enum he ?_
    have I2 : Inv X pins σ H1 { s1 with heap := h' } := I1.kept (t' := s1.toks) hk
    refine ⟨s1.heap.objs.size + 1, [s1.heap.objs.size + 1, s1.heap.objs.size], _, _, H1, rfl, I2, turn_enumT a (s1.heap.objs.size + 1) s1.heap.objs.size, ⟨⟨.none, he⟩, hit, Nat.succ_ne_self _, Nat.ne_of_lt al, Nat.ne_of_lt (Nat.lt_succ_of_lt al)⟩, fun b hb => ?_, q⟩
    have e' : b = s1.heap.objs.size + 1 ∨ b = s1.heap.objs.size := by simpa using hb
    have hle : s1.heap.objs.size ≤ b := by
      rcases e' with z | z
      · rw [z]; exact Nat.le_add_right _ _
      · rw [z]; exact Nat.le_refl _
    exact I1.fpOk hle (I1.hok.fresh hle)
/-- for i, x in enumerate(t), t a tuple that stays -/
theorem for_enumT {K : PySem.W.Frag} {a : Addr} {xs : List V} {g : TG} {tb : TS} {D : Ends} {σ : L2.St} {H : Hp} (Pv : Nat → L2.St → Hp → Prop) (h0 : Pv 0 σ H) (hl : ∀ i σ H, Pv i σ H → SqT K H a xs)
    (hs : ∀ i x T σ H1, xs[i]? = some x → Pv i σ H1 → H1 T = none → g (.ref T) σ (upd H1 T (.tup [.int (i : Nat), x])) fun σ2 H2 => tb { nx := Pv (i + 1), rt := D.rt, bk := D.nx, ct := Pv (i + 1) } σ2 H2)
    (hd : ∀ i σ H', Pv i σ H' → xs.length ≤ i → D.nx σ H') :
    ∃ W : Nat → Nat → L2.St → Hp → Prop, (∃ m, W 0 m σ H) ∧ ∀ i m σ H, W i m σ H →
      ((IteT K a).stop i H ∧ D.nx σ H) ∨ ((IteT K a).go i H ∧ ∃ N : L2.St → Hp → Prop, (∀ σ' H', N σ' H' → ∃ m', m' < m ∧ W (i + 1) m' σ' H') ∧ ∀ x H', (IteT K a).yld i H x H' → g x σ H' fun σ2 H2 => tb { nx := N, rt := D.rt, bk := D.nx, ct := N } σ2 H2) := by
  refine ⟨fun i m σ H => m = xs.length - i ∧ Pv i σ H, ⟨_, rfl, h0⟩, ?_⟩
  rintro i m σ H ⟨rfl, p⟩
  have k1 := hl i σ H p
  by_cases c : i < xs.length
  · obtain ⟨x, gx⟩ := get_of c
    refine .inr ⟨⟨xs, x, k1, gx⟩, Pv (i + 1), fun σ' H' p' => ⟨xs.length - (i + 1), by omega, rfl, p'⟩, fun z H' hy => ?_⟩
    obtain ⟨T, x', rfl, hT, rfl, f1⟩ := hy
    have ex : x' = x := Option.some.inj ((f1 _ k1).symm.trans gx)
    subst ex
    exact hs i _ T σ H gx p hT
  · exact .inl ⟨⟨xs, k1, by omega⟩, hd i σ H p (by omega)⟩
end Loc

set_option Elab.async false
set_option linter.all false
set_option maxRecDepth 100000
namespace Loc
open PySem PySem.Spec PyProof.Rows L2
/-! ### a call of a def that is entered while no repr is under way -/
section
variable {X : Cx} {CX : CXT} {k : Nat} {f : Addr} {fd : FuncData} {ps : List Str} {sp : Sp} {dvs : List V} {ds : List Value} {E : XK} {x : Str} {p pos : Pos} {e : Expr} {es : List Expr} {t : TA}
theorem run_fnG {pins : List (Addr × Obj)} {σ : L2.St} {H : Hp} {s : Shared} {Q : VK} {us : List Value} {vs : List V} (F : FnG X.prog X.w X.K X.mg X.base CX k f fd ps sp) (hg : X.A.guards = some []) (hr : Room k X.A) (hb : Binds X.K fd ps ds) (hd : Vals dvs ds) (hx : Passes CX X E)
    (I : Inv X pins σ H s) (r : Vals vs us) (h : sp (vs ++ dvs) H Q E) : wpAny (model X.prog X.w) X.A (call (.ref f) us) (EP X pins σ Q) X.xe s := by
  have r2 : Vals (vs ++ dvs) (us ++ ds) := r.append hd
  have hl : (us ++ ds).length = ps.length := by rw [← r2.length]; exact F.cnt h
  refine wpAny_call (codeAny_mono (F.go (out := X.stack) (ar := ⟨us, []⟩) hg hr I.env0 (hb s us I.kIn hl) r2 h) fun r s' hq => ?_)
  cases r with
  | error e => exact hx pins σ H s e s' I hq
  | ok fl =>
    cases fl with
    | ret u => exact I.after hq
    | next => exact False.elim hq
    | brk => exact False.elim hq
    | cont => exact False.elim hq
theorem pe_callG (F : FnG X.prog X.w X.K X.mg X.base CX k f fd ps sp) (gg : X.A.guards = some []) (hr : Room k X.A) (hg : Gl X x) (hm : X.mg x = some (.ref f)) (hk : PySem.W.keepIn X.K (.ref f) = true) (hb : Binds X.K fd ps ds) (hd : Vals dvs ds) (hx : Passes CX X E)
    (ha : PA X (e :: es) t) (hdb : (x == ("__debug__" : Str)) = false := by decide) (he : starEach (e :: es) X.env = (false, eval e X.env) :: starEach es X.env := by rfl) (hpl : (backTo pos (starEach es X.env)).any (·.1) = false := by rfl) :
    PE X (.Call (.Name x p) (e :: es) [] pos) (tCall sp dvs E t) := by
  refine ⟨fun pins s σ H Q I h => ?_⟩
  refine wpAny_Call_Name_kw (ld_glob I hg hm ?_ hdb)
  refine PySem.W.callWith_K (h₀ := X.base) I.ok.mod.kin hk (thn (ha.run pos pins s σ H _ I h) fun us s1 ⟨vs, H1, I1, r, q⟩ => ⟨I1.kIn, ?_⟩) he hpl
  exact run_fnG F gg hr hb hd hx I1 r q
end
/-! ### [.. for i, x in enumerate(xs)], xs a list that stays -/
theorem lc_enum {K : PySem.W.Frag} {a : Addr} {xs : List V} {g : TG} {tt : TT} {te : TE} {vs : List Nat} {σ : L2.St} {H1 : Hp} {D : Addr} {Qd : Hp → Prop} (Pv : Nat → Hp → Prop)
    (h0 : Pv 0 (upd H1 D (.lst []))) (hl : ∀ i H, Pv i H → SqL K H a xs)
    (hs : ∀ i x T H, xs[i]? = some x → Pv i H → H T = none → g (.ref T) (wipe σ vs) (upd H T (.tup [.int (i : Nat), x])) fun σ2 H2 => wipe σ2 vs = wipe σ vs ∧ tt σ2 H2 fun k H3 =>
      if k = true then te σ2 H3 fun z H4 => ∃ acc, H4 D = some (.lst acc) ∧ acc.length < sizeLine ∧ Pv (i + 1) (upd H4 D (.lst (acc ++ [z]))) else Pv (i + 1) H3)
    (hd : ∀ i H, Pv i H → xs.length ≤ i → Qd H) :
    ∃ W : Nat → Nat → Hp → Prop, (∃ m, W 0 m (upd H1 D (.lst []))) ∧ ∀ i m H, W i m H →
      ((Ite K a).stop i H ∧ Qd H) ∨ ((Ite K a).go i H ∧ ∃ Nx : Hp → Prop, (∀ H', Nx H' → ∃ m', m' < m ∧ W (i + 1) m' H') ∧ ∀ x H', (Ite K a).yld i H x H' → g x (wipe σ vs) H' fun σ2 H2 => wipe σ2 vs = wipe σ vs ∧ tt σ2 H2 fun k H3 =>
        if k = true then te σ2 H3 fun y H4 => ∃ acc, H4 D = some (.lst acc) ∧ acc.length < sizeLine ∧ Nx (upd H4 D (.lst (acc ++ [y]))) else Nx H3) := by
  refine ⟨fun i m H => m = xs.length - i ∧ Pv i H, ⟨_, rfl, h0⟩, ?_⟩
  rintro i m H ⟨rfl, p⟩
  have k1 := hl i H p
  by_cases c : i < xs.length
  · obtain ⟨x, gx⟩ := get_of c
    refine .inr ⟨⟨xs, x, k1, gx⟩, Pv (i + 1), fun H' p' => ⟨xs.length - (i + 1), by omega, rfl, p'⟩, fun z H' hy => ?_⟩
    obtain ⟨T, x', rfl, hT, rfl, f1⟩ := hy
    have ex : x' = x := Option.some.inj ((f1 _ k1).symm.trans gx)
    subst ex
    exact hs i _ T H gx p hT
  · exact .inl ⟨⟨xs, k1, by omega⟩, hd i H p (by omega)⟩
/-- a pot that stays but for others -/
theorem Pot.same {H H' : Hp} {p : Addr} {c : Nat} (h : Pot H p c) (e : Same H H') : Pot H' p c := let ⟨o, ho, po⟩ := h; ⟨o, e _ _ ho, po⟩
theorem dec_tt {α : Type} [DecidableEq α] (a : α) : decide (a = a) = true := decide_eq_true rfl
/-! ### calls by names alone -/
def kG {α : Type} (us ws : List α) : List α := match us with
  | [] => ws
  | _ => []
section
variable {X : Cx} {CX : CXT} {k : Nat} {f : Addr} {fd : FuncData} {ps ks : List Str} {sp : Sp} {E : XK} {x : Str} {p pos : Pos} {kws : List Keyword} {tk : TA} {g : List Value → List Value → List Value} {gV : List V → List V → List V}
theorem pe_callK0 (F : FnOk X.prog X.w X.K X.mg X.base CX k f fd ps sp) (hr : Room k X.A) (hg : Gl X x) (hm : X.mg x = some (.ref f)) (hk : PySem.W.keepIn X.K (.ref f) = true) (hb : KBinds X.K fd ps ks g gV) (hx : Passes CX X E)
    (hkw : PK X kws tk) (hall : (backToKw pos (keywordEach kws X.env)).all (·.1.isSome) = true := by rfl) (hks : (backToKw pos (keywordEach kws X.env)).filterMap (·.1) = ks := by rfl)
    (hdb : (x == ("__debug__" : Str)) = false := by decide) (hpl : ((backTo pos (starEach [] X.env)).any (·.1) || (backToKw pos (keywordEach kws X.env)).any (·.1.isNone)) = false := by rfl) :
    PE X (.Call (.Name x p) [] kws pos) (tCallK sp gV E tNil tk) := by
  refine ⟨fun pins s σ H Q I h => ?_⟩
  refine wpAny_Call_Name_kw (ld_glob I hg hm ?_ hdb)
  refine PySem.W.callWith_KW0 (h₀ := X.base) I.ok.mod.kin hk hall (thn (hkw.run pos pins s σ H _ I h) fun ws s2 ⟨zs, H2, I2, rz, q2⟩ => ⟨I2.kIn, ?_⟩) hpl
  rw [hks]
  exact run_fnk (us := []) (vs := []) F hr hb hx I2 .nil rz q2
end
theorem fun_kbinds {K : PySem.W.Frag} {x qual : Str} {st : Stmt} {f : Addr} {fd : FuncData} {ps : List Str} (F : Fun K x qual st f fd) (hp : 0 < ps.length)
    (h : ∀ (kV doc pm : Value) (an : Option Addr) (cdv ct : Value) (ws : List Value), ws.length = ps.length → bindArgs (PySem.W.fnOf x qual (defArgs st) (defBody st) (defScope st) .none kV doc pm an cdv ct) ⟨[], ps.zip ws⟩ = pure (ps.zip ws)) : KBinds K fd ps ps kG kG := by
  obtain ⟨oc, od, kV, doc, pm, an, cdv, ct, osl, rfl, lk, hcd⟩ := F.ex
  refine ⟨fun s us ws _ hl => ?_, fun r rz => ?_⟩
  · cases us with
    | nil => exact .of_eq (h kV doc pm an cdv ct ws hl)
    | cons u us =>
      have hl : (0 : Nat) = ps.length := hl
      omega
  · cases r with
    | nil => exact rz
    | cons _ _ => exact .nil
section
variable {K : PySem.W.Frag}
theorem shown_sumL (ns : List Nat) (h : ∀ n ∈ ns, n < 10 ^ 70) : (PyData.shown (.list ((ns.map fun n : Nat => (n : Int)).map PyData.int))).length ≤ 72 * ns.length + 10 := by
  have t := listText_len_le (PyData.shownAll ((ns.map fun n : Nat => (n : Int)).map PyData.int))
  have s := shown_sum ns h
  rw [PyData.shownAll_length, List.length_map, List.length_map] at t
  show (listText _).length ≤ _
  omega
/-- what repr asks of a list of small numbers -/
theorem rep_intsL {H : Hp} {a : Addr} {ns : List Nat} {Q : VK} (hS : SqL K H a (ns.map fun n : Nat => V.int (n : Int))) (h : ∀ n ∈ ns, n < 10 ^ 70) (hl : ns.length ≤ 100000)
    (q : Q (.str (PyData.shown (.list ((ns.map fun n : Nat => (n : Int)).map PyData.int)))) H) : rRep K [.ref a] H Q := by
  have dp := depth_ints (ns.map fun n : Nat => (n : Int))
  have e : (ns.map fun n : Nat => V.int (n : Int)) = (ns.map fun n : Nat => (n : Int)).map V.int := by
    rw [List.map_map]
    rfl
  rw [e] at hS
  refine ⟨a, _, rfl, .lst hS (DpAll.ints _), ?_, ?_, ?_, ?_, q⟩
  · show PyData.showableAll _ = true
    refine PyData.showableAll_ints _ fun n hn => ?_
    obtain ⟨m, hm, rfl⟩ := List.mem_map.mp hn
    exact log_small (h m hm)
  · show PyData.hasDictAll _ = false
    exact noDict_ints _
  · simp only [PyData.depth]
    omega
  · have := shown_sumL ns h
    rw [sizeLine_eq]
    omega
end
theorem rep_getL {α : Type} (l : List α) : ∀ (c i : Nat), i < l.length * c → (List.replicate c l).flatten[i]? = l[i % l.length]?
  | 0, i, h => by omega
  | c + 1, i, h => by
    rw [List.replicate_succ, List.flatten_cons]
    by_cases z : i < l.length
    · rw [List.getElem?_append_left z, Nat.mod_eq_of_lt z]
    · rw [List.getElem?_append_right (by omega), rep_getL l c (i - l.length) (by rw [Nat.mul_succ] at h; omega)]
      rw [Nat.mod_eq_sub_mod (show l.length ≤ i by omega)]
theorem rep_lenL {α : Type} (l : List α) : ∀ c : Nat, (List.replicate c l).flatten.length = l.length * c
  | 0 => rfl
  | c + 1 => by rw [List.replicate_succ, List.flatten_cons, List.length_append, rep_lenL l c, Nat.mul_succ, Nat.add_comm]
/-! ### pairs as data -/
theorem eqv_pairs : ∀ ps : List (Nd × Nat), PyData.eqvAll (ps.map pdat) (ps.map pdat) = true
  | [] => by simp [PyData.eqvAll]
  | p :: r => by
    have e1 : PyData.eqv (pdat p) (pdat p) = true := by
      unfold pdat
      simp [PyData.eqv, PyData.eqvAll, eqv_yes]
    simp only [List.map_cons, PyData.eqvAll, e1, eqv_pairs r, Bool.and_self]
theorem eqv_pairsT (ps : List (Nd × Nat)) : PyData.eqv (.tuple (ps.map pdat)) (.tuple (ps.map pdat)) = true := by
  unfold PyData.eqv
  exact eqv_pairs _
theorem eqv_pairsL (ps : List (Nd × Nat)) : PyData.eqv (.list (ps.map pdat)) (.list (ps.map pdat)) = true := by
  unfold PyData.eqv
  exact eqv_pairs _
theorem shaped_prsTT {l : Nat} {ps : List (Nd × Nat)} (h : ∀ p ∈ ps, Ok p.1 l) (hl : l ≤ 20) : SeqAt.shaped (.tuple (ps.map pdat)) = true := by
  obtain ⟨h1, h2⟩ := canLay_prs l ps h
  unfold SeqAt.shaped
  rw [Bool.and_eq_true]
  exact ⟨by unfold PyData.canLay0; exact h1, decide_eq_true (by unfold PyData.depth; omega)⟩
/-- pairs of elements and small counts -/
def ElPairs (ps : List (Nd × Nat)) : Prop := ∀ p ∈ ps, (∃ k : Nat, p.1 = .el k ∧ k ≤ 10 ^ 9) ∧ p.2 < 10 ^ 70
theorem shown_pdat {p : Nd × Nat} (h : (∃ k : Nat, p.1 = .el k ∧ k ≤ 10 ^ 9) ∧ p.2 < 10 ^ 70) : (PyData.shown (pdat p)).length ≤ 147 ∧ PyData.showable (pdat p) = true ∧ PyData.hasDict (pdat p) = false ∧ PyData.depth (pdat p) ≤ 2 := by
  obtain ⟨n, c⟩ := p
  obtain ⟨⟨k, e, hk⟩, hc⟩ := h
  have e : n = .el k := e
  subst e
  have hk7 : k < 10 ^ 70 := Nat.lt_of_le_of_lt hk (by decide +kernel)
  refine ⟨?_, ?_, ?_, ?_⟩
  · show (tupleText (PyData.shownAll [.int (k : Int), .int (c : Int)])).length ≤ 147
    have t := tupleText_len_le (PyData.shownAll [.int (k : Int), .int (c : Int)])
    have h1 := shown_len hk7
    have h2 := shown_len (n := c) hc
    simp only [PyData.shownAll, List.map_cons, List.map_nil, List.sum_cons, List.sum_nil, List.length_cons, List.length_nil] at t
    simp only [PyData.shownAll]
    omega
  · show PyData.showableAll (([k, c].map fun n : Nat => (n : Int)).map PyData.int) = true
    refine PyData.showableAll_ints _ fun n hn => ?_
    obtain ⟨m, hm, rfl⟩ := List.mem_map.mp hn
    simp only [List.mem_cons, List.not_mem_nil, or_false] at hm
    rcases hm with rfl | rfl
    · exact log_small hk7
    · exact log_small hc
  · show PyData.hasDictAll (([k, c].map fun n : Nat => (n : Int)).map PyData.int) = false
    exact noDict_ints _
  · have := depth_ints ([k, c].map fun n : Nat => (n : Int))
    show PyData.depth (.tuple (([k, c].map fun n : Nat => (n : Int)).map PyData.int)) ≤ 2
    simp only [PyData.depth]
    omega
theorem shown_pdats : ∀ ps : List (Nd × Nat), ElPairs ps → ((PyData.shownAll (ps.map pdat)).map (·.length)).sum ≤ 147 * ps.length ∧ PyData.showableAll (ps.map pdat) = true ∧ PyData.hasDictAll (ps.map pdat) = false ∧ PyData.depthAll (ps.map pdat) ≤ 2
  | [], _ => by simp [PyData.shownAll, PyData.showableAll, PyData.hasDictAll, PyData.depthAll]
  | p :: r, h => by
    obtain ⟨a1, a2, a3, a4⟩ := shown_pdat (h p List.mem_cons_self)
    obtain ⟨b1, b2, b3, b4⟩ := shown_pdats r fun q hq => h q (List.mem_cons_of_mem _ hq)
    simp only [List.map_cons, PyData.shownAll, PyData.showableAll, PyData.hasDictAll, PyData.depthAll, List.sum_cons, List.length_cons, a2, b2, a3, b3, Bool.and_self, Bool.or_self]
    refine ⟨by omega, trivial, trivial, by omega⟩
theorem shown_prsT {ps : List (Nd × Nat)} (h : ElPairs ps) : (PyData.shown (.tuple (ps.map pdat))).length ≤ 149 * ps.length + 3 ∧ PyData.showable (.tuple (ps.map pdat)) = true ∧ PyData.hasDict (.tuple (ps.map pdat)) = false ∧ PyData.depth (.tuple (ps.map pdat)) ≤ 3 := by
  obtain ⟨b1, b2, b3, b4⟩ := shown_pdats ps h
  refine ⟨?_, b2, b3, ?_⟩
  · show (tupleText _).length ≤ _
    have t := tupleText_len_le (PyData.shownAll (ps.map pdat))
    rw [PyData.shownAll_length, List.length_map] at t
    omega
  · simp only [PyData.depth]
    omega
section
variable {K : PySem.W.Frag}
/-- repr of pairs -/
theorem rep_prsT {H : Hp} {a : Addr} {us : List V} {ps : List (Nd × Nat)} {Q : VK} (hS : SqT K H a us) (hn : PrsV K H us ps) (h : ElPairs ps) (hl : ps.length ≤ 1000) (q : Q (.str (PyData.shown (.tuple (ps.map pdat)))) H) : rRep K [.ref a] H Q := by
  obtain ⟨b1, b2, b3, b4⟩ := shown_prsT h
  refine ⟨a, _, rfl, .tup hS hn, b2, b3, by omega, ?_, q⟩
  rw [sizeLine_eq]
  omega
/-- repr of a list of two tuples of pairs -/
theorem rep_two {H : Hp} {a b c : Addr} {us ws : List V} {ps : List (Nd × Nat)} {Q : VK} (hL : SqL K H a [.ref b, .ref c]) (hb : SqT K H b us) (hc : SqT K H c ws) (hn : PrsV K H us ps) (hm : PrsV K H ws ps) (h : ElPairs ps) (hl : ps.length ≤ 1000)
    (q : Q (.str (PyData.shown (.list [.tuple (ps.map pdat), .tuple (ps.map pdat)]))) H) : rRep K [.ref a] H Q := by
  obtain ⟨b1, b2, b3, b4⟩ := shown_prsT h
  refine ⟨a, _, rfl, .lst hL (.cons (.tup hb hn) (.cons (.tup hc hm) .nil)), ?_, ?_, ?_, ?_, q⟩
  · simp only [PyData.showable, PyData.showableAll]
    simp only [PyData.showable] at b2
    rw [b2]
    rfl
  · simp only [PyData.hasDict, PyData.hasDictAll]
    simp only [PyData.hasDict] at b3
    rw [b3]
    rfl
  · simp only [PyData.depth, PyData.depthAll]
    simp only [PyData.depth] at b4
    omega
  · show (listText (PyData.shownAll [.tuple (ps.map pdat), .tuple (ps.map pdat)])).length ≤ sizeLine
    have t := listText_len_le (PyData.shownAll [.tuple (ps.map pdat), .tuple (ps.map pdat)])
    simp only [PyData.shownAll, List.map_cons, List.map_nil, List.sum_cons, List.sum_nil, List.length_cons, List.length_nil] at t
    simp only [PyData.shownAll]
    rw [sizeLine_eq]
    omega
end
/-! ### repr of a tuple, an int, None -/
def rRepV (K : PySem.W.Frag) : List V → Hp → VK → Prop := fun xs H Q => rRepA K xs H Q ∨ (xs = [.non] ∧ Q (.str "None") H)
theorem call_repV {X : Cx} {k : Nat} (hr : Room k X.A) (hg : X.A.guards = some []) : CallR X (.builtin "repr") (rRepV X.K) := by
  intro pins s σ H xs us Q I r h
  rcases h with h | ⟨rfl, q⟩
  · exact call_repA hr hg pins s σ H xs us Q I r h
  · obtain ⟨u, rfl, ru⟩ := vals1 r
    cases ru
    exact PySem.P.repr_of_none ⟨.str _, H, I.tok _, ⟨_, rfl⟩, q⟩
theorem sum_ints (l : List Nat) : (l.map fun n : Nat => (n : Int)).sum = ((l.sum : Nat) : Int) := by
  induction l with
  | nil => rfl
  | cons a r ih => rw [List.map_cons, List.sum_cons, List.sum_cons, ih, Int.natCast_add]
open RZ
/-! ### for x, y in zip(t, u), t and u tuples of any lengths -/
theorem for_zipU {K : PySem.W.Frag} {a b : Addr} {xs ys : List V} {g : TG} {tb : TS} {D : Ends} {σ : L2.St} {H : Hp} (Pv : Nat → L2.St → Hp → Prop) (h0 : Pv 0 σ H) (hq : ∀ i σ H, Pv i σ H → SqT K H a xs ∧ SqT K H b ys)
    (hs : ∀ (i : Nat) (x y : V) (T : Addr) (σ : L2.St) (H : Hp), xs[i]? = some x → ys[i]? = some y → Pv i σ H → H T = none → g (.ref T) σ (upd H T (.tup [x, y])) fun σ2 H2 => tb { D with nx := Pv (i + 1), ct := Pv (i + 1), bk := D.nx } σ2 H2)
    (hd : ∀ i σ H, Pv i σ H → (xs.length ≤ i ∨ ys.length ≤ i) → D.nx σ H) :
    ∃ W : Nat → Nat → L2.St → Hp → Prop, (∃ m, W 0 m σ H) ∧ ∀ i m σ H, W i m σ H →
      ((ItzT K a b).stop i H ∧ D.nx σ H) ∨ ((ItzT K a b).go i H ∧ ∃ N : L2.St → Hp → Prop, (∀ σ' H', N σ' H' → ∃ m', m' < m ∧ W (i + 1) m' σ' H') ∧ ∀ v H', (ItzT K a b).yld i H v H' → g v σ H' fun σ2 H2 => tb { D with nx := N, ct := N, bk := D.nx } σ2 H2) := by
  refine ⟨fun i m σ H => m = xs.length - i ∧ Pv i σ H, ⟨_, rfl, h0⟩, ?_⟩
  rintro i m σ H ⟨rfl, p⟩
  obtain ⟨k1, k2⟩ := hq i σ H p
  by_cases c : i < xs.length ∧ i < ys.length
  · obtain ⟨x, gx⟩ := get_of c.1
    obtain ⟨y, gy⟩ := get_of c.2
    refine .inr ⟨⟨xs, ys, x, y, k1, k2, gx, gy⟩, Pv (i + 1), fun σ' H' p' => ⟨xs.length - (i + 1), by omega, rfl, p'⟩, fun v H' hy => ?_⟩
    obtain ⟨T, x', y', rfl, hT, rfl, f1, f2⟩ := hy
    have ex : x' = x := Option.some.inj ((f1 _ k1).symm.trans gx)
    have ey : y' = y := Option.some.inj ((f2 _ k2).symm.trans gy)
    subst ex
    subst ey
    exact hs i _ _ T σ H gx gy p hT
  · have c' : xs.length ≤ i ∨ ys.length ≤ i := by omega
    exact .inl ⟨⟨xs, ys, k1, k2, c'⟩, hd i σ H p c'⟩
/-- t[1:] -/
theorem slice_one {K : PySem.W.Frag} {H : Hp} {a : Addr} {xs : List V} {Q : VK} (h : SqT K H a xs) (q : ∀ H' t, Same H H' → SqT K H' t (xs.drop 1) → Q (.ref t) H') : rSlA K (.ref a) (some 1) none H Q := by
  refine ⟨a, xs, rfl, h, fun hw => q H a (Same.refl H) ?_, fun hw u nu => q _ u (sameN nu) (.inl (.inl ?_))⟩
  · have h1 : HT.sIx xs.length 0 (some ((1 : Nat) : Int)) = 0 := hw.1
    rw [HT.sIx_nat] at h1
    have : xs.length = 0 := by omega
    rw [List.eq_nil_of_length_eq_zero this] at h ⊢
    exact h
  · rw [upd_same]
    refine congrArg (fun z => some (HO.tup z)) ?_
    show cutV xs (some ((1 : Nat) : Int)) none = _
    unfold cutV
    rw [HT.sIx_nat, HT.sIx_none]
    by_cases z : xs.length = 0
    · rw [List.eq_nil_of_length_eq_zero z]
      rfl
    · rw [show min 1 xs.length = 1 by omega]
      exact List.take_of_length_le (by rw [List.length_drop]; exact Nat.le_refl _)
/-- a pair as data -/
theorem shaped_pdat {p : Nd × Nat} {l : Nat} (h : Ok p.1 l) (hl : l ≤ 20) : SeqAt.shaped (pdat p) = true := by
  obtain ⟨h1, h2⟩ := canLay_prs l [p] fun q hq => by rw [List.mem_singleton.mp hq]; exact h
  unfold SeqAt.shaped
  rw [Bool.and_eq_true]
  simp only [List.map_cons, List.map_nil, PyData.canLayAll0, PyData.depthAll, Bool.and_true] at h1 h2
  exact ⟨h1, decide_eq_true (by omega)⟩
theorem eqv_pdat (p : Nd × Nat) : PyData.eqv (pdat p) (pdat p) = true := by
  unfold pdat
  simp [PyData.eqv, PyData.eqvAll, eqv_yes]
end Loc

set_option Elab.async false
set_option linter.all false
namespace Loc
open PySem PySem.Spec PyProof.Rows L2
section
variable {X : Cx} {a b c d : Expr} {ta tb tc td : TE} {pos : Pos}
/-- a op1 b op2 c op3 d -/
def tChain3 (r r' r'' : R2) (ta tb tc td : TE) : TE := fun σ H Q => ta σ H fun x H1 => tb σ H1 fun y H2 => r x y H2 fun z H3 => ∃ k, z = .bl k ∧
  (if k = true then tc σ H3 fun w' H4 => r' y w' H4 fun z2 H5 => ∃ k2, z2 = .bl k2 ∧ (if k2 = true then td σ H5 fun u H6 => r'' w' u H6 Q else Q (.bl false) H5) else Q (.bl false) H3)
theorem pt_chain3 {op op' op'' : CmpOp} {r r' r'' : R2} (ho : OpR X (compareOp op) r) (ho' : OpR X (compareOp op') r') (ho'' : OpR X (compareOp op'') r'') (ha : PE X a ta) (hb : PE X b tb) (hc : PE X c tc) (hd : PE X d td)
    (hm : lastMarks [op, op', op''] [b, c, d] = false := by with_unfolding_all rfl) : PT X (.Compare a [op, op', op''] [b, c, d] pos) (tTest (tChain3 r r' r'' ta tb tc td)) := by
  refine ⟨fun pins s σ H Q I h => ?_⟩
  refine isTrue_chain (thn (ha.run pins s σ H _ I h) fun v s1 ⟨x, H1, I1, r1, q1⟩ => test_link (thn (hb.run pins s1 σ H1 _ I1 q1) fun u s2 ⟨y, H2, I2, r2, q2⟩ =>
    thn (ho pins s2 σ H2 x y v u _ I2 r1 r2 q2) fun d' s3 ⟨z, H3, I3, r3, k, e, q3⟩ => ?_)) hm
  subst e
  cases r3
  refine wpAny_truthy_bool ?_
  cases k with
  | false =>
    obtain ⟨k', e', q'⟩ := q3
    cases e'
    exact ite_ff ⟨H3, I3, q'⟩
  | true =>
    refine ite_tt (test_link (thn (hc.run pins s3 σ H3 _ I3 q3) fun w' s4 ⟨z', H4, I4, r4, q4⟩ => thn (ho' pins s4 σ H4 y z' u w' _ I4 r2 r4 q4) fun d2 s5 ⟨z2, H5, I5, r5, k2, e2, q5⟩ => ?_))
    subst e2
    cases r5
    refine wpAny_truthy_bool ?_
    cases k2 with
    | false =>
      obtain ⟨k', e', q'⟩ := q5
      cases e'
      exact ite_ff ⟨H5, I5, q'⟩
    | true =>
      refine ite_tt (test_last (thn (hd.run pins s5 σ H5 _ I5 q5) fun w2 s6 ⟨z6, H6, I6, r6, q6⟩ => thn (ho'' pins s6 σ H6 z' z6 w' w2 _ I6 r4 r6 q6) fun d3 s7 ⟨z7, H7, I7, r7, k3, e3, q7⟩ => ?_))
      subst e3
      cases r7
      exact wpAny_truthy_bool ⟨H7, I7, q7⟩
end
end Loc

set_option Elab.async false
set_option linter.all false
set_option maxRecDepth 100000
namespace Loc
open PySem PySem.Spec PyProof.Rows L2
/-- a comprehension over reversed(t), t a tuple -/
theorem lc_revT {K : PySem.W.Frag} {a : Addr} {xs : List V} {g : TG} {tt : TT} {te : TE} {vs : List Nat} {σ : L2.St} {H1 : Hp} {D : Addr} {Qd : Hp → Prop} (Pv : Nat → Hp → Prop) (h0 : Pv 0 (upd H1 D (.lst []))) (hl : ∀ i H, i ≤ xs.length → Pv i H → SqT K H a xs)
    (hs : ∀ i x H, i < xs.length → xs[xs.length - 1 - i]? = some x → Pv i H → g x (wipe σ vs) H fun σ2 H2 => wipe σ2 vs = wipe σ vs ∧ tt σ2 H2 fun b H3 =>
      if b = true then te σ2 H3 fun y H4 => ∃ acc, H4 D = some (.lst acc) ∧ acc.length < sizeLine ∧ Pv (i + 1) (upd H4 D (.lst (acc ++ [y]))) else Pv (i + 1) H3) (hd : ∀ H, Pv xs.length H → Qd H) :
    ∃ W : Nat → Nat → Hp → Prop, (∃ m, W 0 m (upd H1 D (.lst []))) ∧ ∀ i m H, W i m H →
      ((RT.ItvT K a xs.length).stop i H ∧ Qd H) ∨ ((RT.ItvT K a xs.length).go i H ∧ ∃ Nx : Hp → Prop, (∀ H', Nx H' → ∃ m', m' < m ∧ W (i + 1) m' H') ∧ ∀ x H', (RT.ItvT K a xs.length).yld i H x H' → g x (wipe σ vs) H' fun σ2 H2 => wipe σ2 vs = wipe σ vs ∧ tt σ2 H2 fun b H3 =>
        if b = true then te σ2 H3 fun y H4 => ∃ acc, H4 D = some (.lst acc) ∧ acc.length < sizeLine ∧ Nx (upd H4 D (.lst (acc ++ [y]))) else Nx H3) := by
  refine ⟨fun i m H => m = xs.length - i ∧ i ≤ xs.length ∧ Pv i H, ⟨xs.length, by simp, Nat.zero_le _, h0⟩, ?_⟩
  rintro i m H ⟨rfl, hi, p⟩
  have q := hl i H hi p
  by_cases hlt : i < xs.length
  · refine .inr ⟨⟨hlt, xs, xs[xs.length - 1 - i]'(by omega), q, by rw [List.getElem?_eq_getElem]⟩, Pv (i + 1), fun H' p' => ⟨xs.length - (i + 1), by omega, rfl, hlt, p'⟩, fun x H' y => ?_⟩
    obtain ⟨e, y⟩ := y
    subst e
    exact hs i x _ hlt (y xs q) p
  · have e : i = xs.length := by omega
    subst e
    exact .inl ⟨Nat.le_refl _, hd H p⟩
end Loc

set_option Elab.async false
set_option linter.all false
set_option maxRecDepth 100000
set_option maxHeartbeats 4000000
namespace Loc
open PySem PySem.Spec PyProof.Rows L2
/-- a short tuple, written up to 2000 times -/
def rRepT2 (K : PySem.W.Frag) : R2 := fun x y H Q => ∃ l k xs, x = .ref l ∧ y = .int k ∧ SqT K H l xs ∧ xs ≠ [] ∧ 2 ≤ k ∧ k ≤ 2000 ∧ xs.length ≤ 400 ∧ ∀ H' p, Same H H' → SqT K H' p (List.replicate k.toNat xs).flatten → Q (.ref p) H'
theorem op_repT2 {X : Cx} : OpR X (binaryOp .Mult) (rRepT2 X.K) := by
  intro pins s σ H x y v u Q I rx ry h
  obtain ⟨l, k, xs, rfl, rfl, tup, ne, two, most, short, q⟩ := h
  cases rx
  obtain ⟨w, rfl⟩ := ry
  obtain ⟨ys, r, ⟨⟨cls, dd, data, sl⟩, hob, hcl, n, hdt⟩, hsm⟩ := I.tuple tup
  simp only at hcl hdt
  subst hcl hdt
  have ly : ys.length = xs.length := r.length.symm
  obtain ⟨y0, yr, rfl⟩ : ∃ y0 yr, ys = y0 :: yr := by
    cases ys with
    | nil => exact absurd (List.eq_nil_of_length_eq_zero ly.symm) ne
    | cons a b => exact ⟨a, b, rfl⟩
  have filled : ((y0 :: yr).toArray).isEmpty = false := rfl
  have size0 : ((y0 :: yr).toArray).size = xs.length := by rw [List.size_toArray, ly]
  have prod : ((((y0 :: yr).toArray).size : Nat) : Int) * k ≤ 800000 := by
    rw [size0]
    have := Int.mul_le_mul_of_nonneg_right (c := k) (show ((xs.length : Nat) : Int) ≤ 400 by omega) (by omega)
    omega
  have prodN : k.toNat * xs.length ≤ 2000 * 400 := Nat.mul_le_mul (by omega) short
  have flat : (List.replicate k.toNat (y0 :: yr)).flatten.length ≤ sizeLine := by
    rw [PyProof.Rows.lm_len_rep_flat, ly]
    exact Nat.le_trans prodN (by decide)
  have b0 : (decide (k < -(2 ^ 63)) || decide (k ≥ 2 ^ 63)) = false := by
    rw [Bool.or_eq_false_iff]
    exact ⟨decide_eq_false (by omega), decide_eq_false (by omega)⟩
  have b1 : (((y0 :: yr).toArray).isEmpty || k == 1) = false := Bool.or_eq_false_iff.mpr ⟨filled, beq_eq_false_iff_ne.mpr (by omega)⟩
  have b2 : (decide (k ≤ 0) || ((y0 :: yr).toArray).isEmpty) = false := Bool.or_eq_false_iff.mpr ⟨decide_eq_false (by omega), filled⟩
  have b4 : Builtin.Tuple.tupleTooMany (((((y0 :: yr).toArray).size : Nat) : Int) * k) = false := by
    have : (800000 : Int) ≤ ((sizeLine : Nat) : Int) := by decide
    exact decide_eq_false (by omega)
  refine wpAny_binaryOp_repeat_ref (T := "tuple") (U := "int")
    (by decide) ⟨_, hob, rfl⟩ (fun s' => typeIs_int s' k w)
    noFill_tuple_mul PySem.F.fills_int_mul PySem.F.slot_int_rmul
    repeat_tuple PySem.F.slot_int_index.lookup ?_
  refine call_meets PySem.F.slot_int_rmul (typeIs_int s k w)
    PySem.F.entry_int_rmul (PySem.F.args_int_rmul_2 _ _)
    (int_rmul_tuple k w l (y0 :: yr).toArray n dd sl) ⟨hob, rfl, ⟨_, hob, rfl⟩, ?_⟩
  refine call_meets PySem.F.slot_tuple_mul ⟨_, hob, rfl⟩
    PySem.F.entry_tuple_mul (PySem.F.args_tuple_mul_2 _ _)
    (tuple_mulW l (y0 :: yr).toArray n dd sl k w b0 b1 b2 (by omega) b4
      (by rw [size_rep, List.size_toArray]; exact flat)) ⟨hob, ?_⟩
  rw [size_rep]
  have fresh : H s.heap.objs.size = none := I.hok.fresh (Nat.le_refl _)
  refine ⟨.ref s.heap.objs.size, _, I.laid (t' := s.toks) (o := .tup (List.replicate k.toNat xs).flatten)
    (fun b ob z => Heap.get?_push_of_some _ z) (Nat.le_refl _) ⟨?_, _, r.rep k.toNat, IsTup.new _ _⟩, rfl, q _ _ (sameN fresh) (.inl (.inl upd_same))⟩
  rw [PyProof.Rows.lm_len_rep_flat]
  exact Nat.le_trans prodN (by decide)
end Loc

set_option Elab.async false
set_option linter.all false
set_option maxRecDepth 100000
set_option maxHeartbeats 2000000
/-! t[::-1], t a tuple -/
namespace HT
open PySem PySem.Spec PyProof.Rows
section
variable {prog : Program} {w : World} {A : Around} {E : Value → Shared → Prop} {s : Shared}
theorem sliceApplied_rev {sl : Addr} {vk : Value} {n : Nat} {Q : Int × Int × Nat → Shared → Prop} (hs : s.heap.IsSliceOf sl .none .none vk) (pk : IsPart vk (some (-1)))
    (h : Q ((n : Int) - 1, -1, n) s) : wpAny (model prog w) A (Builtin.Slice.sliceApplied (.ref sl) (pure (n : Int))) Q E s := by
  obtain ⟨os, hos, hcs, hds⟩ := id hs
  unfold Builtin.Slice.sliceApplied Builtin.Slice.sliceFields
  refine wpAny_bind (wpAny_bind (wpAny_field hos hds (x := .none) rfl (wpAny_bind (wpAny_field hos hds (x := .none) rfl (wpAny_bind (wpAny_field hos hds (x := vk) rfl (wpAny_pure ?_)))))))
  refine wpAny_bind (slicePart_ pk ?_)
  show wpAny _ _ (if ((-1 : Int) == 0) = true then _ else _) _ _ s
  rw [if_neg (by decide)]
  refine wpAny_bind (slicePart_none (wpAny_bind (slicePart_none (wpAny_bind (wpAny_pure ?_)))))
  have e : Builtin.Slice.slicePlaces ((n : Int) - 1) (-1) (-1) = n := by
    unfold Builtin.Slice.slicePlaces
    have h1 : ¬ ((-1 : Int) > 0) := by omega
    simp only [h1, if_false]
    split
    · have : ((n : Int) - 1 - -1 - 1) / (- (-1)) = (n : Int) - 1 := by
        rw [show (- (-1 : Int)) = 1 by rfl, Int.ediv_one]
        omega
      rw [this]
      omega
    · omega
  show wpAny _ _ (pure ((n : Int) - 1, (-1 : Int), Builtin.Slice.slicePlaces ((n : Int) - 1) (-1) (-1))) _ _ s
  rw [e]
  exact wpAny_pure h
theorem fm_congr {f g : Nat → Option Value} : ∀ l : List Nat, (∀ m ∈ l, f m = g m) → l.filterMap f = l.filterMap g
  | [], _ => rfl
  | a :: l, h => by
    rw [List.filterMap_cons, List.filterMap_cons, h a List.mem_cons_self, fm_congr l fun m hm => h m (List.mem_cons_of_mem _ hm)]
theorem pick_rev (xs : Array Value) : ((List.range xs.size).filterMap fun (m : Nat) => xs[((xs.size : Int) - 1 + (m : Int) * (-1)).toNat]?).toArray = xs.toList.reverse.toArray := by
  have e : (List.range xs.size).filterMap (fun (m : Nat) => xs[((xs.size : Int) - 1 + (m : Int) * (-1)).toNat]?) = ((List.range xs.size).map fun k => xs.size - 1 - k).filterMap (xs[·]?) := by
    rw [List.filterMap_map]
    refine fm_congr _ fun m hm => ?_
    have := List.mem_range.mp hm
    show xs[((xs.size : Int) - 1 + (m : Int) * (-1)).toNat]? = xs[xs.size - 1 - m]?
    rw [show ((xs.size : Int) - 1 + (m : Int) * (-1)).toNat = xs.size - 1 - m by omega]
  rw [e, PySem.W.krv_range, List.filterMap_reverse, PySem.W.krv_all]
theorem getItem_tuple_rev {t sl : Addr} {items : Array Value} {vk : Value} {Q : Value → Shared → Prop} (ht : IsTup s.heap t items) (hs : s.heap.IsSliceOf sl .none .none vk) (pk : IsPart vk (some (-1)))
    (h : Q (.ref s.heap.objs.size) { s with heap := s.heap.push { cls := .type "tuple", data := .seq items.toList.reverse.toArray } })
    (hsz : items.size ≤ sizeLine) : wpAny (model prog w) A (getItem (.ref t) (.ref sl)) Q E s := by
  have htake : sizeOk (.seq items.toList.reverse.toArray) := by
    show items.toList.reverse.toArray.size ≤ sizeLine
    rw [List.size_toArray, List.length_reverse, Array.length_toList]
    exact hsz
  obtain ⟨os, hos, hcs, hds⟩ := id hs
  have hTs : s.TypeIs (.ref sl) "slice" := ⟨os, hos, hcs⟩
  unfold getItem
  try with_reducible refine wpAny_holding ?_
  first | refine wpAny_bind (wpAny_pure ?_) | skip
  refine wpAny_bind (wpAny_sequenceKey ht.typeIs (by decide) ?_)
  refine wpAny_bind (wpAny_callSpecial?_slot (name := Str.ofString "__getitem__") ht.typeIs PyProof.Rows.slot_tuple_getitem
    (wpAny_call_entry PyProof.Rows.slot_tuple_getitem ht.typeIs entry_tuple_getitem ?_ (args_tuple_getitem _ _)))
  show wpAny _ _ (Builtin.Tuple.tupleItemsOf (.ref t) >>= _) _ _ s
  refine wpAny_bind (tupleItemsOf_ ht ?_)
  refine wpAny_bind (wpAny_typeOf hTs ?_)
  rw [if_pos (by decide)]
  refine wpAny_bind (sliceApplied_rev hs pk ?_)
  have hno : ¬ ((((items.size : Int) - 1) == 0 && (-1 : Int) == 1 && items.size == items.size) = true) := by
    intro q
    rw [Bool.and_eq_true, Bool.and_eq_true] at q
    exact absurd q.1.2 (by decide)
  show wpAny _ _ (if (((items.size : Int) - 1) == 0 && (-1 : Int) == 1 && items.size == items.size) = true then _ else _) _ _ s
  rw [if_neg hno, pick_rev]
  first
    | exact wpAny_bind (m := Builtin.Tuple.tupleExact _) (wpAny_newObj_type (wpAny_pure ⟨_, rfl, wpAny_pure h⟩) htake)
    | exact wpAny_bind (m := Builtin.Tuple.tupleExact _) (wpAny_newObj_type (wpAny_bind (wpAny_pure (wpAny_pure ⟨_, rfl, wpAny_pure h⟩))) htake)
    | exact wpAny_bind (wpAny_bind (m := Builtin.Tuple.tupleExact _) (wpAny_newObj_type (wpAny_pure (wpAny_pure ⟨_, rfl, wpAny_pure h⟩)) htake))
    | exact wpAny_bind (wpAny_bind (m := Builtin.Tuple.tupleExact _) (wpAny_newObj_type (wpAny_pure ⟨_, rfl, wpAny_pure h⟩) htake))
end
end HT
namespace L2
open PySem PySem.Spec PyProof.Rows
section
variable {X : Cx} {e st : Expr} {te : TE} {tk : TO} {p2 pos : Pos}
def rRevT (K : PySem.W.Frag) : V → Hp → VK → Prop := fun x H Q => ∃ a xs, x = .ref a ∧ SqT K H a xs ∧ ∀ p, H p = none → Q (.ref p) (upd H p (.tup xs.reverse))
/-- t[::k], k = -1 -/
theorem pe_revT (he : PE X e te) (hk : PO X (some st) tk) (hst : ∀ v s : Value, subscripted (.Slice none none (some st) p2) false v s = operate [v, s] (getItem v s) := by intros; rfl) : PE X (.Subscript e (.Slice none none (some st) p2) pos) (fun σ H Q => te σ H fun x H1 => tk σ H1 fun k H2 => k = some (-1) ∧ rRevT X.K x H2 Q) := by
  refine ⟨fun pins s σ H Q I h => ?_⟩
  refine Subscript_ (thn (he.run pins s σ H _ I h) fun v s1 ⟨x, H1, I1, r1, q1⟩ => ?_)
  refine wpAny_Slice (thn (po_none.run pins s1 σ H1 (fun o H' => o = none ∧ H' = H1) I1 ⟨rfl, rfl⟩) fun vl s2 ⟨l, H2, I2, pl, el, e2⟩ => thn (po_none.run pins s2 σ H2 (fun o H' => o = none ∧ H' = H2) I2 ⟨rfl, rfl⟩) fun vu s3 ⟨u, H3, I3, pu, eu, e3⟩ => ?_)
  subst e2 el eu e3
  refine thn (hk.run pins s3 σ H3 _ I3 q1) fun vk s4 ⟨k, H4, I4, pk, ek, q4⟩ => ?_
  subst ek
  have evl : vl = .none := by cases pl; rfl
  have evu : vu = .none := by cases pu; rfl
  subst evl evu
  obtain ⟨a, xs, rfl, hx, q⟩ := q4
  cases r1
  have I5 : Inv X pins σ H4 { s4 with heap := s4.heap.push { cls := .type "slice", data := .fields #[.none, .none, vk] } } := I4.kept (t' := s4.toks) fun b ob q => Heap.get?_push_of_some _ q
  obtain ⟨its, r, ht, hz⟩ := I5.tuple hx
  have hg : wpAny (model X.prog X.w) X.A (getItem (.ref a) (.ref s4.heap.objs.size)) (EP X pins σ Q) X.xe { s4 with heap := s4.heap.push { cls := .type "slice", data := .fields #[.none, .none, vk] } } := by
    refine HT.getItem_tuple_rev ht (Heap.IsSliceOf.new ..) pk ?_ (by rw [List.size_toArray, ← r.length]; exact hz)
    refine ⟨.ref _, _, I5.laid (t' := s4.toks) (o := .tup xs.reverse) (fun b ob q => Heap.get?_push_of_some _ q) (Nat.le_refl _) ?_, rfl, q _ (I5.hok.fresh (Nat.le_refl _))⟩
    exact ⟨by rw [List.length_reverse]; exact hz, _, r.reverse, IsTup.new _ _⟩
  show wpAny (model X.prog X.w) X.A (subscriptTail e (.Slice none none (some st) p2) (.ref a) (.ref s4.heap.objs.size)) (EP X pins σ Q) X.xe { s4 with heap := s4.heap.push { cls := .type "slice", data := .fields #[.none, .none, vk] } }
  exact tail_any (ops := [.ref a, .ref s4.heap.objs.size]) ht.typeIs PyProof.Rows.slot_tuple_getitem.lookup hg (hst _ _)
end
end L2

set_option Elab.async false
set_option linter.all false
set_option maxRecDepth 100000
namespace Loc
open PySem PySem.Spec PyProof.Rows L2
/-! ### data of any kind: dicts among them -/
def keyD : Key → PyData
  | .inl i => .int i
  | .inr x => .str x
mutual
inductive Dq (K : PySem.W.Frag) (H : Hp) : V → PyData → Prop
  | non : Dq K H .non .none
  | bl (b : Bool) : Dq K H (.bl b) (.bool b)
  | int (i : Int) : Dq K H (.int i) (.int i)
  | str (x : Str) : Dq K H (.str x) (.str x)
  | lst {a : Addr} {xs : List V} {ds : List PyData} : SqL K H a xs → DqAll K H xs ds → Dq K H (.ref a) (.list ds)
  | tup {a : Addr} {xs : List V} {ds : List PyData} : SqT K H a xs → DqAll K H xs ds → Dq K H (.ref a) (.tuple ds)
  | dct {a : Addr} {kvs : List (Key × V)} {ps : List (PyData × PyData)} : H a = some (.dK kvs) → DqKv K H kvs ps → Dq K H (.ref a) (.dict ps)
inductive DqAll (K : PySem.W.Frag) (H : Hp) : List V → List PyData → Prop
  | nil : DqAll K H [] []
  | cons {v : V} {vs : List V} {d : PyData} {ds : List PyData} : Dq K H v d → DqAll K H vs ds → DqAll K H (v :: vs) (d :: ds)
inductive DqKv (K : PySem.W.Frag) (H : Hp) : List (Key × V) → List (PyData × PyData) → Prop
  | nil : DqKv K H [] []
  | cons {k : Key} {v : V} {d : PyData} {kvs : List (Key × V)} {ps : List (PyData × PyData)} : Dq K H v d → DqKv K H kvs ps → DqKv K H ((k, v) :: kvs) ((keyD k, d) :: ps)
end
section
variable {X : Cx} {pins : List (Addr × Obj)} {σ : L2.St} {H : Hp} {s : Shared}
/-- what the reading gives: the data, and its text -/
def RdK (P : Program) (w : World) (h : Heap) (u : Value) (d : PyData) : Prop :=
  ∃ as, Reads h u d as ∧ ∃ bs, ReadAtMost h d.depth bs ∧ ReprK P w bs h d.depth u d.shown
def RdA (P : Program) (w : World) (h : Heap) (us : List Value) (ds : List PyData) : Prop :=
  ∃ as, ReadsAll h us ds as ∧ ∃ bs, ReadAtMost h (PyData.depthAll ds) bs ∧ ReprAllK P w bs h (PyData.depthAll ds) us (PyData.shownAll ds)
theorem RdA.nil {P : Program} {w : World} {h : Heap} : RdA P w h [] [] := ⟨_, .nil, [], (fun _ z => nomatch z), by rw [PyData.shownAll]; exact .nil⟩
theorem RdA.cons {P : Program} {w : World} {h : Heap} {u : Value} {d : PyData} {us : List Value} {ds : List PyData} (x : RdK P w h u d) (y : RdA P w h us ds) : RdA P w h (u :: us) (d :: ds) := by
  obtain ⟨a1, r1, b1, m1, k1⟩ := x
  obtain ⟨a2, r2, b2, m2, k2⟩ := y
  refine ⟨_, .cons r1 r2, b1 ++ b2, ?_, ?_⟩
  · rw [PyData.depthAll]
    exact (m1.mono (Nat.le_max_left _ _)).append (m2.mono (Nat.le_max_right _ _))
  · rw [PyData.depthAll, PyData.shownAll]
    exact .cons ((k1.more fun b z => List.mem_append_left _ z).level_le (Nat.le_max_left _ _)) (k2.more_le (fun b z => List.mem_append_right _ z) (Nat.le_max_right _ _))
theorem keyD_rd {P : Program} {w : World} {h : Heap} {k : Key} {u : Value} (e : keyIs k u = true) (hs : (keyD k).showable = true) (hz : (keyD k).shown.length ≤ sizeLine) : RdK P w h u (keyD k) := by
  rcases keyIs_shape e with ⟨i, t, rfl, rfl⟩ | ⟨x, t, rfl, rfl⟩
  · refine ⟨_, .int i t, [], (fun _ z => nomatch z), ?_⟩
    simp only [keyD, PyData.shown]
    exact .of_is (ReprIs.int t (by simpa [keyD, PyData.showable] using hs)) _ _ _
  · refine ⟨_, .str x t, [], (fun _ z => nomatch z), ?_⟩
    simp only [keyD, PyData.shown] at hz ⊢
    exact .of_is (ReprIs.str x t hz) _ _ _
theorem RdK.lst {P : Program} {w : World} {h : Heap} {a : Addr} {o : Obj} {vs : Array Value} {n : Nat} {ds : List PyData} (ho : h.get? a = some o) (hc : o.cls = .type "list") (hd : o.data = .seq vs n)
    (y : RdA P w h vs.toList ds) : RdK P w h (.ref a) (.list ds) := by
  obtain ⟨as, r, bs, m, k⟩ := y
  have rr : Reads h (.ref a) (.list ds) _ := .list ho hc hd r
  have na : a ∉ bs := not_mem_of_deeper rr (by simp only [PyData.depth]; omega) m
  refine ⟨_, rr, a :: bs, ReadAtMost.cons rr (by simp only [PyData.depth]; omega) m, ?_⟩
  simp only [PyData.depth, PyData.shown]
  obtain ⟨l⟩ := vs
  cases l with
  | nil =>
    have r' : ReadsAll h [] ds _ := r
    cases r'
    rw [PyData.shownAll, listText_nil]
    exact ReprK.listEmpty ho hc hd
  | cons x l => exact ReprK.list ho hc hd na (by simpa using k.length_eq) (fun i y e => k.item i y (by simpa using e))
theorem RdK.tup {P : Program} {w : World} {h : Heap} {a : Addr} {o : Obj} {vs : Array Value} {n : Nat} {ds : List PyData} (ho : h.get? a = some o) (hc : o.cls = .type "tuple") (hd : o.data = .seq vs n)
    (y : RdA P w h vs.toList ds) : RdK P w h (.ref a) (.tuple ds) := by
  obtain ⟨as, r, bs, m, k⟩ := y
  have rr : Reads h (.ref a) (.tuple ds) _ := .tuple ho hc hd r
  have na : a ∉ bs := not_mem_of_deeper rr (by simp only [PyData.depth]; omega) m
  refine ⟨_, rr, a :: bs, ReadAtMost.cons rr (by simp only [PyData.depth]; omega) m, ?_⟩
  simp only [PyData.depth, PyData.shown]
  exact ReprK.tuple ho hc hd na k
theorem RdK.dct {P : Program} {w : World} {h : Heap} {a : Addr} {o : Obj} {es : Array DictEntry} {n : Nat} {ps : List (PyData × PyData)} (ho : h.get? a = some o) (hc : o.cls = .type "dict") (hd : o.data = .dict es n)
    (hm : (a == sysModules) = false) (y : RdA P w h (es.toList.map (·.key)) (ps.map (·.1))) (z : RdA P w h (es.toList.map (·.val)) (ps.map (·.2))) : RdK P w h (.ref a) (.dict ps) := by
  obtain ⟨a1, r1, b1, m1, k1⟩ := y
  obtain ⟨a2, r2, b2, m2, k2⟩ := z
  have rr : Reads h (.ref a) (.dict ps) _ := .dict ho hc hd r1 r2
  have m : ReadAtMost h (PyData.depthKv ps) (b1 ++ b2) := (m1.mono (PyData.depthAll_keys_le ps)).append (m2.mono (PyData.depthAll_vals_le ps))
  have na : a ∉ b1 ++ b2 := not_mem_of_deeper rr (by simp only [PyData.depth]; omega) m
  refine ⟨_, rr, a :: (b1 ++ b2), ReadAtMost.cons rr (by simp only [PyData.depth]; omega) m, ?_⟩
  simp only [PyData.depth, PyData.shown, PyData.shownKv_eq]
  refine ReprK.dict ho hc hd hm na (ReprEntriesK.of_two _ _ _ (k1.more_le (fun b q => ?_) (PyData.depthAll_keys_le ps)) (k2.more_le (fun b q => ?_) (PyData.depthAll_vals_le ps)))
  · exact List.mem_append_left _ q
  · exact List.mem_append_right _ q
theorem shown_in {ds : List PyData} {m : Nat} (e : ∀ t ∈ PyData.shownAll ds, t.length ≤ m) {d : PyData} (h : d ∈ ds) : d.shown.length ≤ m := by
  induction ds with
  | nil => exact nomatch h
  | cons x r ih =>
    rw [PyData.shownAll] at e
    rcases List.mem_cons.mp h with rfl | h
    · exact e _ List.mem_cons_self
    · exact ih (fun t ht => e t (List.mem_cons_of_mem _ ht)) h
mutual
theorem Dq.rd (I : Inv X pins σ H s) : ∀ (d : PyData) (v : V) (u : Value), Dq X.K H v d → RelV v u → d.showable = true → d.shown.length ≤ sizeLine → RdK X.prog X.w s.heap u d
  | .none, _, _, h, r, _, _ => by
    cases h
    cases r
    refine ⟨_, .none, [], (fun _ z => nomatch z), ?_⟩
    simp only [PyData.shown]
    exact .of_is ReprIs.none _ _ _
  | .bool b, _, _, h, r, _, _ => by
    cases h
    cases r
    refine ⟨_, .bool b, [], (fun _ z => nomatch z), ?_⟩
    simp only [PyData.shown]
    exact .of_is (ReprIs.bool b) _ _ _
  | .int i, _, _, h, r, hs, _ => by
    cases h
    obtain ⟨t, rfl⟩ := r
    exact keyD_rd (k := .inl i) (keyIs_int i t) hs (by simp only [keyD, PyData.shown]; exact int_text_fits (by simpa [PyData.showable] using hs))
  | .str x, _, _, h, r, hs, hz => by
    cases h
    obtain ⟨t, rfl⟩ := r
    exact keyD_rd (k := .inr x) (keyIs_str x t) hs hz
  | .list ds, _, _, h, r, hs, hz => by
    cases h with
    | lst hq ha =>
      cases r
      obtain ⟨its, rv, ⟨o, n, ho, hc, _, hd⟩, _⟩ := I.list hq
      refine RdK.lst ho hc hd (Dq.rdAll I ds _ its ha rv (by simpa [PyData.showable] using hs) fun t ht => ?_)
      rw [PyData.shown] at hz
      exact Nat.le_trans (listText_mem_le ht) hz
  | .tuple ds, _, _, h, r, hs, hz => by
    cases h with
    | tup hq ha =>
      cases r
      obtain ⟨its, rv, ⟨o, ho, hc, n, hd⟩, _⟩ := I.tuple hq
      refine RdK.tup ho hc hd (Dq.rdAll I ds _ its ha rv (by simpa [PyData.showable] using hs) fun t ht => ?_)
      rw [PyData.shown] at hz
      exact Nat.le_trans (tupleText_mem_le ht) hz
  | .dict ps, _, _, h, r, hs, hz => by
    cases h with
    | dct hq ha =>
      cases r
      obtain ⟨_, hm, vs, kv, o, es, n, ho, hx, hd, _, hp, _⟩ := dk_rd I.hok (.inl hq)
      have hz' : ∀ t ∈ PyData.shownKv ps, t.length ≤ sizeLine := fun t ht => by
        rw [PyData.shown] at hz
        exact Nat.le_trans (dictText_mem_le ht) hz
      obtain ⟨y, z⟩ := Dq.rdKv I ps _ vs es.toList ha kv hp (by simpa [PyData.showable] using hs) hz'
      exact RdK.dct ho hx.1 hd hm y z
theorem Dq.rdAll (I : Inv X pins σ H s) : ∀ (ds : List PyData) (vs : List V) (us : List Value), DqAll X.K H vs ds → Vals vs us → PyData.showableAll ds = true → (∀ t ∈ PyData.shownAll ds, t.length ≤ sizeLine) → RdA X.prog X.w s.heap us ds
  | [], _, _, h, r, _, _ => by
    cases h
    cases r
    exact .nil
  | d :: ds, _, _, h, r, hs, hz => by
    cases h with
    | cons h1 h2 =>
      cases r with
      | cons r1 r2 =>
        have hs' : d.showable = true ∧ PyData.showableAll ds = true := by simpa [PyData.showableAll] using hs
        rw [PyData.shownAll] at hz
        exact RdA.cons (Dq.rd I d _ _ h1 r1 hs'.1 (hz _ List.mem_cons_self)) (Dq.rdAll I ds _ _ h2 r2 hs'.2 fun t ht => hz t (List.mem_cons_of_mem _ ht))
theorem Dq.rdKv (I : Inv X pins σ H s) : ∀ (ps : List (PyData × PyData)) (kvs : List (Key × V)) (vs : List (Key × Value)) (es : List DictEntry), DqKv X.K H kvs ps → KV kvs vs → Pairs (mixKind X.prog X.w) es vs →
    PyData.showableKv ps = true → (∀ t ∈ PyData.shownKv ps, t.length ≤ sizeLine) → RdA X.prog X.w s.heap (es.map (·.key)) (ps.map (·.1)) ∧ RdA X.prog X.w s.heap (es.map (·.val)) (ps.map (·.2))
  | [], _, _, _, h, r, p, _, _ => by
    cases h
    cases r
    cases p
    exact ⟨.nil, .nil⟩
  | (kd, d) :: ps, _, _, _, h, r, p, hs, hz => by
    cases h with
    | cons h1 h2 =>
      cases r with
      | cons r1 r2 =>
        cases p with
        | cons p1 p2 p3 =>
          obtain ⟨e1, e2⟩ := r1
          rw [PyData.showableKv] at hs
          have hs' := (Bool.and_eq_true _ _).mp hs
          have hs1 := (Bool.and_eq_true _ _).mp hs'.1
          rw [PyData.shownKv] at hz
          have hl := hz _ List.mem_cons_self
          rw [strLen_append, strLen_append] at hl
          obtain ⟨y, z⟩ := Dq.rdKv I ps _ _ _ h2 r2 p3 hs'.2 fun t ht => hz t (List.mem_cons_of_mem _ ht)
          refine ⟨RdA.cons (keyD_rd ?_ hs1.1 (by omega)) y, RdA.cons ?_ z⟩
          · dsimp only at e1 ⊢
            rw [e1]
            exact p1
          · dsimp only at p2 e2 ⊢
            rw [p2]
            exact Dq.rd I d _ _ h1 e2 hs1.2 (by omega)
end
end
/-- repr(v), v data of any kind that a heap bears -/
def rRepQ (K : PySem.W.Frag) : List V → Hp → VK → Prop := fun xs H Q => ∃ v d, xs = [v] ∧ Dq K H v d ∧
  d.showable = true ∧ d.depth ≤ 62 ∧ d.shown.length ≤ sizeLine ∧ Q (.str d.shown) H
theorem call_repQ {X : Cx} {k : Nat} (hr : Room k X.A) (hg : X.A.guards = some []) : CallR X (.builtin "repr") (rRepQ X.K) := by
  intro pins s σ H xs us Q I r h
  obtain ⟨v, d, rfl, hd, h1, h3, h4, q⟩ := h
  obtain ⟨u, rfl, ru⟩ := vals1 r
  have hu := hr.units
  have hg1 : X.A.in1.guards = some [] := hg
  match d, hd, h1, h3, h4, q with
  | .none, hd, _, _, _, q =>
    cases hd
    cases ru
    exact P.repr_of_none ⟨.str _, H, I.tok _, ⟨_, rfl⟩, by rw [PyData.shown] at q; exact q⟩
  | .bool b, hd, _, _, _, q =>
    cases hd
    cases ru
    exact P.repr_of_bool ⟨.str _, H, I.tok _, ⟨_, rfl⟩, by rw [PyData.shown] at q; exact q⟩
  | .int i, hd, h1, _, _, q =>
    cases hd
    obtain ⟨t, rfl⟩ := ru
    exact P.repr_of_int (by simpa [PyData.showable] using h1) ⟨.str _, H, I.tok _, ⟨_, rfl⟩, by rw [PyData.shown] at q; exact q⟩
  | .str x, hd, _, _, h4, q =>
    cases hd
    obtain ⟨t, rfl⟩ := ru
    exact P.repr_of_str ⟨.str _, H, I.tok _, ⟨_, rfl⟩, by rw [PyData.shown] at q; exact q⟩ (by rw [PyData.shown] at h4; exact h4)
  | .list ds, hd, h1, h3, h4, q =>
    cases hd with
    | lst hq ha =>
      cases ru
      obtain ⟨its, rv, ⟨o, n, ho, hc, _, hd⟩, _⟩ := I.list hq
      rw [PyData.shown] at h4 q
      obtain ⟨as, r, bs, m, k⟩ := Dq.rdAll I ds _ its ha rv (by simpa [PyData.showable] using h1) fun t ht => Nat.le_trans (listText_mem_le ht) h4
      have rr : Reads s.heap _ (.list ds) _ := .list ho hc hd r
      have na := not_mem_of_deeper rr (by simp only [PyData.depth]; omega) m
      simp only [PyData.depth] at h3
      refine call_repr_slot (by omega) ⟨o, ho, hc⟩ F.slot_list_repr.toG ?_
      cases its with
      | nil =>
        cases r
        rw [PyData.shownAll, listText_nil] at q
        exact call_list_repr_empty ⟨o, ho, hc⟩ ho hd ⟨_, _, rfl, .str _, H, I.kept (fun _ _ e => e), ⟨_, rfl⟩, q⟩
      | cons x l =>
        exact call_list_reprK ho hc hd na (by simpa using k.length_eq) (fun i y e => k.item i y (by simpa using e)) hg1 (fun b _ => Clear.nil b) (by show X.A.units + 1 + _ < cLine; omega) (fun _ _ e => e)
          (fun h' u tk hk => ⟨_, _, rfl, .str _, H, I.kept hk, ⟨_, rfl⟩, q⟩) h4
  | .tuple ds, hd, h1, h3, h4, q =>
    cases hd with
    | tup hq ha =>
      cases ru
      obtain ⟨its, rv, ⟨o, ho, hc, n, hd⟩, _⟩ := I.tuple hq
      rw [PyData.shown] at h4 q
      obtain ⟨as, r, bs, m, k⟩ := Dq.rdAll I ds _ its ha rv (by simpa [PyData.showable] using h1) fun t ht => Nat.le_trans (tupleText_mem_le ht) h4
      have rr : Reads s.heap _ (.tuple ds) _ := .tuple ho hc hd r
      have na := not_mem_of_deeper rr (by simp only [PyData.depth]; omega) m
      simp only [PyData.depth] at h3
      refine call_repr_slot (by omega) ⟨o, ho, hc⟩ F.slot_tuple_repr ?_
      exact call_tuple_reprK ho hc hd na k hg1 (fun b _ => Clear.nil b) (by show X.A.units + 1 + _ < cLine; omega) (fun _ _ e => e)
          (fun h' u tk hk => ⟨_, _, rfl, .str _, H, I.kept hk, ⟨_, rfl⟩, q⟩) h4
  | .dict ps, hd, h1, h3, h4, q =>
    cases hd with
    | dct hq ha =>
      cases ru
      obtain ⟨_, hm, vs, kv, o, es, n, ho, hx, hd, _, hp, _⟩ := dk_rd I.hok (.inl hq)
      rw [PyData.shown] at h4 q
      obtain ⟨⟨a1, r1, b1, m1, k1⟩, a2, r2, b2, m2, k2⟩ := Dq.rdKv I ps _ vs es.toList ha kv hp (by simpa [PyData.showable] using h1) fun t ht => Nat.le_trans (dictText_mem_le ht) h4
      have rr : Reads s.heap _ (.dict ps) _ := .dict ho hx.1 hd r1 r2
      have m : ReadAtMost s.heap (PyData.depthKv ps) (b1 ++ b2) := (m1.mono (PyData.depthAll_keys_le ps)).append (m2.mono (PyData.depthAll_vals_le ps))
      have na := not_mem_of_deeper rr (by simp only [PyData.depth]; omega) m
      simp only [PyData.depth] at h3
      rw [PyData.shownKv_eq] at h4 q
      refine call_repr_slot (by omega) ⟨o, ho, hx.1⟩ F.slot_dict_repr ?_
      exact call_dict_reprK ho hx.1 hd hm na (ReprEntriesK.of_two _ _ _ (k1.more_le (fun b z => List.mem_append_left _ z) (PyData.depthAll_keys_le ps)) (k2.more_le (fun b z => List.mem_append_right _ z) (PyData.depthAll_vals_le ps)))
        hg1 (fun b _ => Clear.nil b) (by show X.A.units + 1 + _ < cLine; omega) (fun _ _ e => e) (fun h' u tk hk => ⟨_, _, rfl, .str _, H, I.kept hk, ⟨_, rfl⟩, q⟩) h4
end Loc

set_option Elab.async false
set_option linter.all false
set_option maxRecDepth 100000
namespace Loc
open PySem PySem.Spec PyProof.Rows L2
/-! ### bools among numbers -/
def isNum : V → Int → Prop
  | .int i, j => i = j
  | .bl b, j => (if b = true then (1 : Int) else 0) = j
  | _, _ => False
section
variable {X : Cx}
def rNumI (f : Int → Int → Int) : R2 := fun x y H Q => ∃ i j, isNum x i ∧ y = .int j ∧ Q (.int (f i j)) H
theorem op_addB : OpR X (binaryOp .Add) (rNumI fun i j => i + j) := by
  intro pins s σ H x y v u Q I rx ry h
  obtain ⟨i, j, hx, rfl, q⟩ := h
  obtain ⟨t, rfl⟩ := ry
  cases x with
  | int a =>
    obtain rfl : a = i := hx
    obtain ⟨t', rfl⟩ := rx
    exact add_int ⟨.int _, H, I.tok _, ⟨_, rfl⟩, q⟩
  | bl b =>
    obtain rfl : (if b = true then (1 : Int) else 0) = i := hx
    cases rx
    exact PySem.IntBool.add_bool_int ⟨.int _, H, I.tok _, ⟨_, rfl⟩, q⟩
  | _ => exact (show False from hx).elim
theorem op_subB : OpR X (binaryOp .Sub) (rNumI fun i j => i - j) := by
  intro pins s σ H x y v u Q I rx ry h
  obtain ⟨i, j, hx, rfl, q⟩ := h
  obtain ⟨t, rfl⟩ := ry
  cases x with
  | int a =>
    obtain rfl : a = i := hx
    obtain ⟨t', rfl⟩ := rx
    exact sub_int ⟨.int _, H, I.tok _, ⟨_, rfl⟩, q⟩
  | bl b =>
    obtain rfl : (if b = true then (1 : Int) else 0) = i := hx
    cases rx
    exact PySem.IntBool.sub_bool_int ⟨.int _, H, I.tok _, ⟨_, rfl⟩, q⟩
  | _ => exact (show False from hx).elim
/-- str(x), x a number -/
def rStrB : List V → Hp → VK → Prop := fun xs H Q => (∃ i : Int, xs = [.int i] ∧ i.natAbs.log2 < 1920 ∧ Q (.str (toString i)) H) ∨ ∃ b : Bool, xs = [.bl b] ∧ Q (.str (if b then "True" else "False")) H
theorem call_strB : CallR X (.type "str") rStrB := by
  intro pins s σ H xs us Q I r h
  rcases h with ⟨i, rfl, hz, q⟩ | ⟨b, rfl, q⟩
  · obtain ⟨u, rfl, t, rfl⟩ := vals1 r
    exact PySem.P.str_of_int hz ⟨.str _, H, I.tok _, ⟨_, rfl⟩, q⟩
  · obtain ⟨u, rfl, r1⟩ := vals1 r
    cases r1
    exact PySem.P.str_of_bool ⟨.str _, H, I.tok _, ⟨_, rfl⟩, q⟩
/-- t != () -/
def rNeT0 (K : PySem.W.Frag) : R2 := fun x y H Q => ∃ a b xs, x = .ref a ∧ y = .ref b ∧ SqT K H a xs ∧ SqT K H b [] ∧ Q (.bl (!xs.isEmpty)) H
theorem op_neT0 (hu : X.A.units + 64 < cLine) : OpR X (compareOp .NotEq) (rNeT0 X.K) := by
  intro pins s σ H x y v u Q I rx ry h
  obtain ⟨a, b, xs, rfl, rfl, ha, hb, q⟩ := h
  cases rx
  cases ry
  obtain ⟨its, r1, p1, _⟩ := I.tuple ha
  obtain ⟨its2, r2, p2, _⟩ := I.tuple hb
  cases r2
  refine SeqAt.RcNeAt.tuples (A := X.A) (e := fun _ => true) p1 p2 (by omega) (fun j h1 h2 => absurd h2 (Nat.not_lt_zero j)) _ _ _ _ ⟨.bl (!xs.isEmpty), H, I, ?_, q⟩
  have e := r1.length
  show Value.bool _ = Value.bool _
  cases xs with
  | nil =>
    cases r1
    rfl
  | cons x r =>
    cases r1
    rfl
end
/-! ### the heap beside some lists -/
open Classical in
noncomputable def wo (S : Addr → Prop) (H : Hp) : Hp := fun b => if S b then none else H b
/-- lists stand there -/
def Kp (S : Addr → Prop) (H : Hp) : Prop := ∀ a, S a → ∃ ys, H a = some (.lst ys)
theorem wo_ne {S : Addr → Prop} {b : Addr} {H : Hp} (h : ¬ S b) : wo S H b = H b := by
  unfold wo
  rw [if_neg h]
theorem wo_in {S : Addr → Prop} {b : Addr} {H : Hp} (h : S b) : wo S H b = none := by
  unfold wo
  rw [if_pos h]
theorem wo_same {S : Addr → Prop} {H : Hp} : Same (wo S H) H := fun b o h => by
  by_cases e : S b
  · rw [wo_in e] at h
    cases h
  · rw [wo_ne e] at h
    exact h
theorem wo_up {S : Addr → Prop} {H H' : Hp} (s : Same H H') : Same (wo S H) (wo S H') := fun b o h => by
  by_cases e : S b
  · rw [wo_in e] at h
    cases h
  · rw [wo_ne e] at h ⊢
    exact s b o h
theorem But.wo {p : Addr} {S : Addr → Prop} {H H' : Hp} (hS : S p) (s : But p H H') : Same (Loc.wo S H) (Loc.wo S H') := fun b o h => by
  by_cases e : S b
  · rw [wo_in e] at h
    cases h
  · rw [wo_ne e] at h ⊢
    exact s b o (fun z => e (by rw [z]; exact hS)) h
theorem Kp.up {S : Addr → Prop} {H H' : Hp} (k : Kp S H) (s : Same H H') : Kp S H' := fun a h => let ⟨ys, e⟩ := k a h; ⟨ys, s _ _ e⟩
theorem Kp.but {p : Addr} {c : Nat} {S : Addr → Prop} {H H' : Hp} (k : Kp S H) (s : But p H H') (hp : Pot H' p c) : Kp S H' := fun a h => by
  by_cases e : a = p
  · rw [e]
    exact hp.ls
  · obtain ⟨ys, z⟩ := k a h
    exact ⟨ys, s a _ e z⟩
theorem Kp.new {S : Addr → Prop} {H : Hp} {q : Addr} (k : Kp S H) (h : H q = none) : ¬ S q := fun z => by
  obtain ⟨ys, e⟩ := k q z
  rw [h] at e
  cases e
/-- more lists are left aside -/
theorem wo_less {S T : Addr → Prop} {H : Hp} (h : ∀ a, T a → S a) : Same (Loc.wo S H) (Loc.wo T H) := fun b o e => by
  by_cases z : S b
  · rw [wo_in z] at e
    cases e
  · rw [wo_ne z] at e
    rw [wo_ne (fun t => z (h b t))]
    exact e
mutual
theorem Dq.up {K : PySem.W.Frag} {H H' : Hp} (e : Same H H') : ∀ {v : V} {d : PyData}, Dq K H v d → Dq K H' v d
  | _, _, .non => .non
  | _, _, .bl b => .bl b
  | _, _, .int i => .int i
  | _, _, .str x => .str x
  | _, _, .lst h t => .lst (e.seq h) (DqAll.up e t)
  | _, _, .tup h t => .tup (sameT e h) (DqAll.up e t)
  | _, _, .dct h t => .dct (e _ _ h) (DqKv.up e t)
theorem DqAll.up {K : PySem.W.Frag} {H H' : Hp} (e : Same H H') : ∀ {vs : List V} {ds : List PyData}, DqAll K H vs ds → DqAll K H' vs ds
  | _, _, .nil => .nil
  | _, _, .cons h t => .cons (Dq.up e h) (DqAll.up e t)
theorem DqKv.up {K : PySem.W.Frag} {H H' : Hp} (e : Same H H') : ∀ {vs : List (Key × V)} {ds : List (PyData × PyData)}, DqKv K H vs ds → DqKv K H' vs ds
  | _, _, .nil => .nil
  | _, _, .cons h t => .cons (Dq.up e h) (DqKv.up e t)
end
theorem DqAll.len {K : PySem.W.Frag} {H : Hp} : ∀ {vs : List V} {ds : List PyData}, DqAll K H vs ds → vs.length = ds.length
  | _, _, .nil => rfl
  | _, _, .cons _ t => congrArg (· + 1) (DqAll.len t)
theorem DqAll.get {K : PySem.W.Frag} {H : Hp} : ∀ {vs : List V} {ds : List PyData} {i : Nat} {v : V}, DqAll K H vs ds → vs[i]? = some v → ∃ d, ds[i]? = some d ∧ Dq K H v d
  | _, _, _, _, .nil, e => by simp at e
  | _, _, 0, _, .cons h _, e => by
    simp only [List.getElem?_cons_zero, Option.some.injEq] at e
    subst e
    exact ⟨_, rfl, h⟩
  | _, _, i + 1, _, .cons _ t, e => by
    simp only [List.getElem?_cons_succ] at e ⊢
    exact DqAll.get t e
theorem DqAll.at {K : PySem.W.Frag} {H : Hp} {vs : List V} {ds : List PyData} {i : Nat} {d : PyData} (h : DqAll K H vs ds) (e : ds[i]? = some d) : ∃ v, vs[i]? = some v ∧ Dq K H v d := by
  have l := h.len
  have i1 := (List.getElem?_eq_some_iff.mp e).1
  obtain ⟨v, hv⟩ := get_of (l := vs) (i := i) (by omega)
  obtain ⟨d', e', q⟩ := h.get hv
  rw [e] at e'
  cases e'
  exact ⟨v, hv, q⟩
theorem DqAll.app {K : PySem.W.Frag} {H : Hp} : ∀ {vs us : List V} {ds es : List PyData}, DqAll K H vs ds → DqAll K H us es → DqAll K H (vs ++ us) (ds ++ es)
  | _, _, _, _, .nil, k => k
  | _, _, _, _, .cons h t, k => .cons h (DqAll.app t k)
theorem DqAll.take {K : PySem.W.Frag} {H : Hp} : ∀ {vs : List V} {ds : List PyData} (n : Nat), DqAll K H vs ds → DqAll K H (vs.take n) (ds.take n)
  | _, _, 0, _ => by simpa using DqAll.nil
  | _, _, n + 1, .nil => by simpa using DqAll.nil
  | _, _, n + 1, .cons h t => by
    rw [List.take_succ_cons, List.take_succ_cons]
    exact .cons h (DqAll.take n t)
theorem DqAll.drop {K : PySem.W.Frag} {H : Hp} : ∀ {vs : List V} {ds : List PyData} (n : Nat), DqAll K H vs ds → DqAll K H (vs.drop n) (ds.drop n)
  | _, _, 0, h => by simpa using h
  | _, _, n + 1, .nil => by simpa using DqAll.nil
  | _, _, n + 1, .cons h t => by
    rw [List.drop_succ_cons, List.drop_succ_cons]
    exact DqAll.drop n t
theorem DqAll.rev {K : PySem.W.Frag} {H : Hp} : ∀ {vs : List V} {ds : List PyData}, DqAll K H vs ds → DqAll K H vs.reverse ds.reverse
  | _, _, .nil => by simpa using DqAll.nil
  | _, _, .cons h t => by
    rw [List.reverse_cons, List.reverse_cons]
    exact DqAll.app (DqAll.rev t) (.cons h .nil)
theorem Dq.tupI {K : PySem.W.Frag} {H : Hp} {v : V} {ds : List PyData} (h : Dq K H v (.tuple ds)) : ∃ a vs, v = .ref a ∧ SqT K H a vs ∧ DqAll K H vs ds := by
  cases h with
  | tup h1 h2 => exact ⟨_, _, rfl, h1, h2⟩
/-! ### what kind a value is of -/
def tyD : PyData → String
  | .none => "NoneType" | .bool _ => "bool" | .int _ => "int" | .str _ => "str" | .list _ => "list" | .tuple _ => "tuple" | .dict _ => "dict"
theorem SqL.ty {K : PySem.W.Frag} {H : Hp} {a : Addr} {xs : List V} (h : SqL K H a xs) : TyX K H (.ref a) (.type "list") := by
  rcases h with (h | ⟨o, h⟩) | ⟨o, its, n, h1, h2, _⟩
  · exact .base (.lst h)
  · exact .base (.frz h)
  · exact .kList h1 h2
theorem Dq.ty {K : PySem.W.Frag} {H H' : Hp} (s : Same H H') {v : V} {d : PyData} (h : Dq K H v d) : TyX K H' v (.type (tyD d)) := by
  cases h with
  | non => exact .base .non
  | bl b => exact .base (.bl b)
  | int i => exact .base (.int i)
  | str x => exact .base (.str x)
  | lst h _ => exact SqL.ty (s.seq h)
  | tup h _ => exact Loc.SqT.ty (sameT s h)
  | dct h _ => exact .base (.dK (s _ _ h))
def isaB (d : PyData) (t : String) : Bool := (kitB (tyD d) t).getD false
theorem isi_any {K : PySem.W.Frag} {H H' : Hp} (s : Same H H') {v : V} {d : PyData} {t : String} {b : Bool} {Q : VK} (h : Dq K H v d) (e : kitB (tyD d) t = some b) (q : Q (.bl b) H') : rIsi K [v, .ty t] H' Q :=
  ⟨_, _, _, _, b, rfl, .ty t, h.ty s, kit_ty e, q⟩
theorem kit_all : kitB "NoneType" "int" = some false ∧ kitB "bool" "int" = some true ∧ kitB "int" "int" = some true ∧ kitB "str" "int" = some false ∧ kitB "list" "int" = some false ∧ kitB "tuple" "int" = some false ∧ kitB "dict" "int" = some false ∧
    kitB "NoneType" "bool" = some false ∧ kitB "bool" "bool" = some true ∧ kitB "int" "bool" = some false ∧ kitB "str" "bool" = some false ∧ kitB "list" "bool" = some false ∧ kitB "tuple" "bool" = some false ∧ kitB "dict" "bool" = some false ∧
    kitB "NoneType" "str" = some false ∧ kitB "bool" "str" = some false ∧ kitB "int" "str" = some false ∧ kitB "str" "str" = some true ∧ kitB "list" "str" = some false ∧ kitB "tuple" "str" = some false ∧ kitB "dict" "str" = some false ∧
    kitB "NoneType" "tuple" = some false ∧ kitB "bool" "tuple" = some false ∧ kitB "int" "tuple" = some false ∧ kitB "str" "tuple" = some false ∧ kitB "list" "tuple" = some false ∧ kitB "tuple" "tuple" = some true ∧ kitB "dict" "tuple" = some false := by decide +kernel
def isIntD : PyData → Bool
  | .int _ => true | .bool _ => true | _ => false
def isBoolD : PyData → Bool
  | .bool _ => true | _ => false
def isStrD : PyData → Bool
  | .str _ => true | _ => false
def isTupD : PyData → Bool
  | .tuple _ => true | _ => false
theorem kit_int (d : PyData) : kitB (tyD d) "int" = some (isIntD d) := by
  obtain ⟨a1, a2, a3, a4, a5, a6, a7, b1, b2, b3, b4, b5, b6, b7, c1, c2, c3, c4, c5, c6, c7, d1, d2, d3, d4, d5, d6, d7⟩ := kit_all
  cases d <;> assumption
theorem kit_bool (d : PyData) : kitB (tyD d) "bool" = some (isBoolD d) := by
  obtain ⟨a1, a2, a3, a4, a5, a6, a7, b1, b2, b3, b4, b5, b6, b7, c1, c2, c3, c4, c5, c6, c7, d1, d2, d3, d4, d5, d6, d7⟩ := kit_all
  cases d <;> assumption
theorem kit_str (d : PyData) : kitB (tyD d) "str" = some (isStrD d) := by
  obtain ⟨a1, a2, a3, a4, a5, a6, a7, b1, b2, b3, b4, b5, b6, b7, c1, c2, c3, c4, c5, c6, c7, d1, d2, d3, d4, d5, d6, d7⟩ := kit_all
  cases d <;> assumption
theorem kit_tup (d : PyData) : kitB (tyD d) "tuple" = some (isTupD d) := by
  obtain ⟨a1, a2, a3, a4, a5, a6, a7, b1, b2, b3, b4, b5, b6, b7, c1, c2, c3, c4, c5, c6, c7, d1, d2, d3, d4, d5, d6, d7⟩ := kit_all
  cases d <;> assumption
end Loc

set_option Elab.async false
set_option linter.all false
set_option maxRecDepth 100000
namespace Loc
open PySem PySem.Spec PyProof.Rows L2
/-! ### how great data may be -/
mutual
def nc (t : Nat) : PyData → Bool
  | .none => true
  | .bool _ => true
  | .int i => decide (i.natAbs ≤ (t + 1) * 10 ^ 60)
  | .str x => decide (x.length ≤ 70 + t) && x.cps.toList.all fun c => decide (c < 16 ^ 8)
  | .list xs => ncAll t xs
  | .tuple xs => ncAll t xs
  | .dict kvs => ncKv t kvs
def ncAll (t : Nat) : List PyData → Bool
  | [] => true
  | x :: r => nc t x && ncAll t r
def ncKv (t : Nat) : List (PyData × PyData) → Bool
  | [] => true
  | (k, v) :: r => nc t k && nc t v && ncKv t r
end
theorem ncAll_mem {t : Nat} : ∀ {ds : List PyData}, ncAll t ds = true ↔ ∀ d ∈ ds, nc t d = true
  | [] => ⟨fun _ d h => (nomatch h), fun _ => by rw [ncAll]⟩
  | x :: r => by
    rw [ncAll, Bool.and_eq_true, ncAll_mem]
    simp
theorem pow_le_mul {t u : Nat} (h : t ≤ u) : (t + 1) * 10 ^ 60 ≤ (u + 1) * 10 ^ 60 := Nat.mul_le_mul_right _ (by omega)
mutual
theorem nc_up {t u : Nat} (l : t ≤ u) : ∀ d : PyData, nc t d = true → nc u d = true
  | .none, _ => by rw [nc]
  | .bool _, _ => by rw [nc]
  | .int i, h => by
    rw [nc] at h ⊢
    exact decide_eq_true (Nat.le_trans (of_decide_eq_true h) (pow_le_mul l))
  | .str x, h => by
    rw [nc, Bool.and_eq_true] at h ⊢
    exact ⟨decide_eq_true (Nat.le_trans (of_decide_eq_true h.1) (by omega)), h.2⟩
  | .list xs, h => by
    rw [nc] at h ⊢
    exact ncAll_up l xs h
  | .tuple xs, h => by
    rw [nc] at h ⊢
    exact ncAll_up l xs h
  | .dict kvs, h => by
    rw [nc] at h ⊢
    exact ncKv_up l kvs h
theorem ncAll_up {t u : Nat} (l : t ≤ u) : ∀ ds : List PyData, ncAll t ds = true → ncAll u ds = true
  | [], _ => by rw [ncAll]
  | x :: r, h => by
    rw [ncAll, Bool.and_eq_true] at h ⊢
    exact ⟨nc_up l x h.1, ncAll_up l r h.2⟩
theorem ncKv_up {t u : Nat} (l : t ≤ u) : ∀ ds : List (PyData × PyData), ncKv t ds = true → ncKv u ds = true
  | [], _ => by rw [ncKv]
  | (k, v) :: r, h => by
    rw [ncKv, Bool.and_eq_true, Bool.and_eq_true] at h ⊢
    exact ⟨⟨nc_up l k h.1.1, nc_up l v h.1.2⟩, ncKv_up l r h.2⟩
end
theorem log_of_nc {t : Nat} {n : Nat} (ht : t ≤ 5) (h : n ≤ (t + 1) * 10 ^ 60) : n < 10 ^ 62 ∧ n.log2 < 1920 := by
  have h1 : (t + 1) * 10 ^ 60 ≤ 6 * 10 ^ 60 := Nat.mul_le_mul_right _ (by omega)
  have h2 : n < 10 ^ 62 := Nat.lt_of_le_of_lt (Nat.le_trans h h1) (by decide)
  refine ⟨h2, ?_⟩
  by_cases e : n = 0
  · rw [e]
    decide
  · exact (Nat.log2_lt e).mpr (Nat.lt_trans h2 (by decide +kernel))
mutual
theorem nc_ok {t : Nat} (ht : t ≤ 5) : ∀ d : PyData, nc t d = true → d.leavesShort 100 = true ∧ d.showable = true
  | .none, _ => by simp [PyData.leavesShort, PyData.showable]
  | .bool _, _ => by simp [PyData.leavesShort, PyData.showable]
  | .int i, h => by
    rw [nc] at h
    obtain ⟨h1, h2⟩ := log_of_nc ht (of_decide_eq_true h)
    refine ⟨?_, ?_⟩
    · rw [PyData.leavesShort]
      have e := int_text_length_le10 (k := 62) (by decide) h1
      refine decide_eq_true ?_
      rw [PyData.shown]
      show (Str.ofString (toString i)).length ≤ 100
      rw [PySem.ofString_length]
      omega
    · rw [PyData.showable]
      exact decide_eq_true h2
  | .str x, h => by
    rw [nc, Bool.and_eq_true] at h
    refine ⟨?_, ?_⟩
    · rw [PyData.leavesShort]
      exact h.2
    · rw [PyData.showable]
  | .list xs, h => by
    rw [nc] at h
    rw [PyData.leavesShort, PyData.showable]
    exact ncAll_ok ht xs h
  | .tuple xs, h => by
    rw [nc] at h
    rw [PyData.leavesShort, PyData.showable]
    exact ncAll_ok ht xs h
  | .dict kvs, h => by
    rw [nc] at h
    rw [PyData.leavesShort, PyData.showable]
    exact ncKv_ok ht kvs h
theorem ncAll_ok {t : Nat} (ht : t ≤ 5) : ∀ ds : List PyData, ncAll t ds = true → PyData.leavesShortAll 100 ds = true ∧ PyData.showableAll ds = true
  | [], _ => by simp [PyData.leavesShortAll, PyData.showableAll]
  | x :: r, h => by
    rw [ncAll, Bool.and_eq_true] at h
    have h1 := nc_ok ht x h.1
    have h2 := ncAll_ok ht r h.2
    rw [PyData.leavesShortAll, PyData.showableAll, h1.1, h1.2, h2.1, h2.2]
    exact ⟨rfl, rfl⟩
theorem ncKv_ok {t : Nat} (ht : t ≤ 5) : ∀ ds : List (PyData × PyData), ncKv t ds = true → PyData.leavesShortKv 100 ds = true ∧ PyData.showableKv ds = true
  | [], _ => by simp [PyData.leavesShortKv, PyData.showableKv]
  | (k, v) :: r, h => by
    rw [ncKv, Bool.and_eq_true, Bool.and_eq_true] at h
    have h1 := nc_ok ht k h.1.1
    have h2 := nc_ok ht v h.1.2
    have h3 := ncKv_ok ht r h.2
    rw [PyData.leavesShortKv, PyData.showableKv, h1.1, h1.2, h2.1, h2.2, h3.1, h3.2]
    exact ⟨rfl, rfl⟩
end
/-- numbers below 10^60 · (t + 1), texts of about 70 signs, nested at most m times, of at most b items in all -/
def sm (t m b : Nat) (d : PyData) : Prop := nc t d = true ∧ d.depth ≤ m ∧ d.bulk ≤ b
def smB (t m b : Nat) (d : PyData) : Bool := nc t d && decide (d.depth ≤ m) && decide (d.bulk ≤ b)
theorem sm_of {t m b : Nat} {d : PyData} (h : smB t m b d = true) : sm t m b d := by
  unfold smB at h
  rw [Bool.and_eq_true, Bool.and_eq_true] at h
  exact ⟨h.1.1, of_decide_eq_true h.1.2, of_decide_eq_true h.2⟩
theorem sm.up {t m b t' m' b' : Nat} {d : PyData} (h : sm t m b d) (h1 : t ≤ t') (h2 : m ≤ m') (h3 : b ≤ b') : sm t' m' b' d := ⟨nc_up h1 d h.1, Nat.le_trans h.2.1 h2, Nat.le_trans h.2.2 h3⟩
/-- what repr asks of such data -/
theorem rep_any {K : PySem.W.Frag} {H H' : Hp} (s : Same H H') {v : V} {d : PyData} {t m b : Nat} {Q : VK} (h : Dq K H v d) (k : sm t m b d) (ht : t ≤ 5) (hm : m ≤ 62) (hb : b ≤ 160000) (q : Q (.str d.shown) H') : rRepQ K [v] H' Q := by
  obtain ⟨k1, k2, k3⟩ := k
  obtain ⟨e1, e2⟩ := nc_ok ht d k1
  have l := PyData.shown_le_bulk 100 (by decide) d e1
  refine ⟨v, d, rfl, h.up s, e2, by omega, ?_, q⟩
  rw [sizeLine_eq]
  omega
theorem sm_tup {t m b : Nat} {ds : List PyData} (h : ∀ d ∈ ds, sm t m b d) (n : Nat) (hn : ds.length ≤ n) : sm t (m + 1) (n * (b + 1)) (.tuple ds) ∧ sm t (m + 1) (n * (b + 1)) (.list ds) := by
  have k1 : ncAll t ds = true := ncAll_mem.mpr fun d hd => (h d hd).1
  have k2 : PyData.depthAll ds ≤ m := by
    clear k1 hn
    induction ds with
    | nil => simp [PyData.depthAll]
    | cons d r ih =>
      have := ih fun x hx => h x (List.mem_cons_of_mem _ hx)
      have h1 := (h d List.mem_cons_self).2.1
      simp only [PyData.depthAll]
      omega
  have k3 : PyData.bulkAll ds ≤ ds.length * (b + 1) := by
    clear k1 k2 hn
    induction ds with
    | nil => simp [PyData.bulkAll]
    | cons d r ih =>
      have := ih fun x hx => h x (List.mem_cons_of_mem _ hx)
      have h1 := (h d List.mem_cons_self).2.2
      simp only [PyData.bulkAll, List.length_cons, Nat.add_mul]
      omega
  have k4 := Nat.le_trans k3 (Nat.mul_le_mul_right (b + 1) hn)
  refine ⟨⟨?_, ?_, ?_⟩, ?_, ?_, ?_⟩
  · rw [nc]; exact k1
  · rw [PyData.depth]; omega
  · rw [PyData.bulk]; exact k4
  · rw [nc]; exact k1
  · rw [PyData.depth]; omega
  · rw [PyData.bulk]; exact k4
/-! ### terms whose value is known, dicts among them -/
def MQ (K : PySem.W.Frag) (S : Addr → Prop) (σ : L2.St) (H0 : Hp) (te : TE) (d : PyData) : Prop := ∀ (H : Hp) (Q : VK), Same H0 H → (∀ H' v, Same H H' → Dq K (wo S H') v d → Q v H') → te σ H Q
def MQs (K : PySem.W.Frag) (S : Addr → Prop) (σ : L2.St) (H0 : Hp) (ta : TA) (ds : List PyData) : Prop := ∀ (H : Hp) (Q : List V → Hp → Prop), Same H0 H → (∀ H' vs, Same H H' → DqAll K (wo S H') vs ds → Q vs H') → ta σ H Q
section
variable {K : PySem.W.Frag} {S : Addr → Prop} {σ : L2.St} {H0 : Hp}
theorem MQ.non : MQ K S σ H0 (tC .non) .none := fun H Q _ q => q H _ (Same.refl H) .non
theorem MQ.bl (b : Bool) : MQ K S σ H0 (tC (.bl b)) (.bool b) := fun H Q _ q => q H _ (Same.refl H) (.bl b)
theorem MQ.int (i : Int) : MQ K S σ H0 (tC (.int i)) (.int i) := fun H Q _ q => q H _ (Same.refl H) (.int i)
theorem MQ.str (x : Str) : MQ K S σ H0 (tC (.str x)) (.str x) := fun H Q _ q => q H _ (Same.refl H) (.str x)
theorem MQ.v {i : Nat} {v : V} {d : PyData} (h : σ[i]? = some (some v)) (k : Dq K (wo S H0) v d) : MQ K S σ H0 (tVar i) d := fun H Q s q => ⟨v, h, q H v (Same.refl H) (k.up (wo_up s))⟩
theorem MQs.nil : MQs K S σ H0 tNil [] := fun H Q _ q => q H _ (Same.refl H) .nil
theorem MQs.cons {te : TE} {ta : TA} {d : PyData} {ds : List PyData} (h : MQ K S σ H0 te d) (t : MQs K S σ H0 ta ds) : MQs K S σ H0 (tCons te ta) (d :: ds) := fun H Q s q =>
  h H _ s fun H1 v s1 k1 => t H1 _ (s.trans s1) fun H2 vs s2 k2 => q H2 (v :: vs) (s1.trans s2) (.cons (k1.up (wo_up s2)) k2)
theorem wo_new {q : Addr} {H : Hp} {o : HO} (hp : Kp S H) (hq : H q = none) : wo S (upd H q o) q = some o := by
  rw [wo_ne (hp.new hq), upd_same]
theorem MQ.tup {ta : TA} {ds : List PyData} (hp : Kp S H0) (h : MQs K S σ H0 ta ds) (l : ds.length ≤ 1000) : MQ K S σ H0 (tTup ta) (.tuple ds) := fun H Q s q =>
  h H _ s fun H1 vs s1 k1 => ⟨Nat.le_trans (by rw [k1.len]; exact l) (by decide), fun a ha => q _ _ (s1.trans (sameN ha)) (.tup (.inl (.inl (wo_new ((hp.up s).up s1) ha))) (k1.up (wo_up (sameN ha))))⟩
theorem MQ.lst {ta : TA} {ds : List PyData} (hp : Kp S H0) (h : MQs K S σ H0 ta ds) (l : ds.length ≤ 1000) : MQ K S σ H0 (tLst ta) (.list ds) := fun H Q s q =>
  h H _ s fun H1 vs s1 k1 => ⟨Nat.le_trans (by rw [k1.len]; exact l) (by decide), fun a ha => q _ _ (s1.trans (sameN ha)) (.lst (.inl (.inl (wo_new ((hp.up s).up s1) ha))) (k1.up (wo_up (sameN ha))))⟩
theorem MQ.dct0 (hp : Kp S H0) : MQ K S σ H0 tDNewK (.dict []) := fun H Q s q => fun a ha => q _ _ (sameN ha) (.dct (wo_new (hp.up s) ha) .nil)
theorem MQ.dct1 {x : Str} {i : Nat} {v : V} {d : PyData} (hp : Kp S H0) (h : σ[i]? = some (some v)) (k : Dq K (wo S H0) v d) : MQ K S σ H0 (tDisp [(tC (.str x), tVar i)]) (.dict [(.str x, d)]) := fun H Q s q => fun a ha => by
  have hs : Same H (upd (upd H a (.dK [])) a (.dK [(.inr x, v)])) := fun b o e => by
    have hb : b ≠ a := fun z => by rw [z, ha] at e; cases e
    rw [upd_ne hb, upd_ne hb]
    exact e
  refine ⟨v, h, upd_same, [(.inr x, v)], rfl, (show 1 ≤ 15 by decide), ?_⟩
  refine q _ _ hs (.dct ?_ (.cons (k := .inr x) (k.up (wo_up (s.trans hs))) .nil))
  rw [wo_ne ((hp.up s).new ha), upd_same]
  rfl
end
end Loc
namespace Loc
open PySem PySem.Spec PyProof.Rows L2
section
variable {K : PySem.W.Frag} {S : Addr → Prop} {σ : L2.St} {H0 : Hp}
theorem MQ.ofInt {te : TE} {i : Int} (h : ∀ (H : Hp) (Q : VK), Q (.int i) H → te σ H Q) : MQ K S σ H0 te (.int i) := fun H Q _ q => h H _ (q H _ (Same.refl H) (.int i))
/-- a list that is made of such terms -/
theorem lst_new {ta : TA} {ds : List PyData} {H : Hp} {Q : VK} (hp : Kp S H) (h : MQs K S σ H ta ds) (l : ds.length ≤ 1000)
    (q : ∀ H' a vs, Same H H' → H a = none → H' a = some (.lst vs) → DqAll K (wo S H') vs ds → ¬ S a → Q (.ref a) H') : tLst ta σ H Q :=
  h H _ (Same.refl H) fun H1 vs s1 k1 => ⟨Nat.le_trans (by rw [k1.len]; exact l) (by decide), fun a ha => q _ a vs (s1.trans (sameN ha)) (by
    cases e : H a with
    | none => rfl
    | some o => rw [s1 _ _ e] at ha; cases ha) upd_same (k1.up (wo_up (sameN ha))) ((hp.up s1).new ha)⟩
end
end Loc
namespace Loc
open PySem PySem.Spec PyProof.Rows L2
theorem seq_asg {te : TE} {g : TG} {t : TS} {D : Ends} {σ : L2.St} {H : Hp} (h : te σ H fun v H1 => g v σ H1 fun σ' H' => t D σ' H') : tSeq (tAsg te g) t D σ H := h
end Loc
namespace Loc
open PySem PySem.Spec PyProof.Rows L2
/-- isinstance(x, t) and .. -/
theorem and_isi {K : PySem.W.Frag} {i : Nat} {t : String} {u : TT} {σ : L2.St} {H H0 : Hp} {v : V} {d : PyData} {b : Bool} {Q : Bool → Hp → Prop} (h : σ[i]? = some (some v)) (s : Same H0 H) (k : Dq K H0 v d) (e : kitB (tyD d) t = some b) (yes : b = true → u σ H Q) (no : b = false → Q false H) :
    tAnd (tB (tCB (rIsi K) (tCons (tVar i) (tCons (tC (.ty t)) tNil)))) u σ H Q := by
  refine ⟨v, h, ?_⟩
  refine isi_any (b := b) (Q := fun x H1 => ∃ c, x = V.bl c ∧ if c = true then u σ H1 Q else Q false H1) s k e ⟨b, rfl, ?_⟩
  cases b with
  | true =>
    rw [if_pos rfl]
    exact yes rfl
  | false =>
    rw [if_neg Bool.false_ne_true]
    exact no rfl
end Loc
namespace Loc
open PySem PySem.Spec PyProof.Rows L2
theorem nx_of {f : L2.St → Hp → Prop} {rt : VK} {bk ct : L2.St → Hp → Prop} {σ : L2.St} {H : Hp} (h : f σ H) : (Ends.mk f rt bk ct).nx σ H := h
end Loc

set_option Elab.async false
set_option linter.all false
set_option maxRecDepth 100000
namespace Loc
open PySem PySem.Spec PyProof.Rows L2
theorem andV_isi {K : PySem.W.Frag} {i : Nat} {t : String} {tb : TE} {σ : L2.St} {H H0 : Hp} {v : V} {d : PyData} {b : Bool} {Q : VK} (h : σ[i]? = some (some v)) (s : Same H0 H) (k : Dq K H0 v d) (e : kitB (tyD d) t = some b) (yes : b = true → tb σ H Q) (no : b = false → Q (.bl false) H) :
    tAndV (tCB (rIsi K) (tCons (tVar i) (tCons (tC (.ty t)) tNil))) tb σ H Q := by
  refine ⟨v, h, ?_⟩
  refine isi_any (b := b) (Q := fun x H1 => ∃ c, x = V.bl c ∧ if c = true then tb σ H1 Q else Q (.bl false) H1) s k e ⟨b, rfl, ?_⟩
  cases b with
  | true =>
    rw [if_pos rfl]
    exact yes rfl
  | false =>
    rw [if_neg Bool.false_ne_true]
    exact no rfl
theorem notV_isi {K : PySem.W.Frag} {i : Nat} {t : String} {σ : L2.St} {H H0 : Hp} {v : V} {d : PyData} {b : Bool} {Q : VK} (h : σ[i]? = some (some v)) (s : Same H0 H) (k : Dq K H0 v d) (e : kitB (tyD d) t = some b) (q : Q (.bl (!b)) H) :
    tNotV (tCB (rIsi K) (tCons (tVar i) (tCons (tC (.ty t)) tNil))) σ H Q := by
  refine ⟨v, h, ?_⟩
  exact isi_any (b := b) (Q := fun x H1 => ∃ c, x = V.bl c ∧ Q (.bl (!c)) H1) s k e ⟨b, rfl, q⟩
theorem or_nisi {K : PySem.W.Frag} {i : Nat} {t : String} {u : TT} {σ : L2.St} {H H0 : Hp} {v : V} {d : PyData} {b : Bool} {Q : Bool → Hp → Prop} (h : σ[i]? = some (some v)) (s : Same H0 H) (k : Dq K H0 v d) (e : kitB (tyD d) t = some b) (no : b = true → u σ H Q) (yes : b = false → Q true H) :
    tOr (tNot (tB (tCB (rIsi K) (tCons (tVar i) (tCons (tC (.ty t)) tNil))))) u σ H Q := by
  refine ⟨v, h, ?_⟩
  refine isi_any (b := b) (Q := fun x H1 => ∃ c, x = V.bl c ∧ if (!c) = true then Q true H1 else u σ H1 Q) s k e ⟨b, rfl, ?_⟩
  cases b with
  | true => exact iteF (no rfl)
  | false => exact iteT (yes rfl)
/-- what whole numbers are, of any value -/
def whD : PyData → Bool
  | .int _ => true | _ => false
def elD : PyData → Bool
  | .int i => decide (0 ≤ i) && decide (i ≤ 10 ^ 9) | _ => false
def cntD (l : Int) : PyData → Bool
  | .int i => decide (l ≤ i) && decide (i ≤ 10 ^ 60) | _ => false
def pairQ : PyData → Bool
  | .tuple [a, b] => elD a && cntD 1 b | _ => false
def fstD : PyData → Int
  | .tuple (.int a :: _) => a | _ => 0
/-- runs of at most 300 pairs -/
def RunsP (ds : List PyData) : Prop := ds.length ≤ 300 ∧ (∀ d ∈ ds, pairQ d = true) ∧ ∀ i x y, ds[i]? = some x → ds[i + 1]? = some y → fstD x ≠ fstD y
open Classical in
noncomputable def runsD : PyData → Bool
  | .tuple ds => decide (RunsP ds) | _ => false
theorem runsD_yes {ds : List PyData} (h : RunsP ds) : runsD (.tuple ds) = true := @decide_eq_true _ (Classical.propDecidable _) h
theorem runsD_no {ds : List PyData} (h : ¬ RunsP ds) : runsD (.tuple ds) = false := @decide_eq_false _ (Classical.propDecidable _) h
theorem pairQ_inv {d : PyData} (h : pairQ d = true) : ∃ a b : Int, d = .tuple [.int a, .int b] ∧ 0 ≤ a ∧ a ≤ 10 ^ 9 ∧ 1 ≤ b ∧ b ≤ 10 ^ 60 := by
  cases d with
  | tuple ds =>
    match ds, h with
    | [x, y], h =>
      simp only [pairQ, Bool.and_eq_true] at h
      obtain ⟨h1, h2⟩ := h
      cases x with
      | int a =>
        cases y with
        | int b =>
          simp only [elD, cntD, Bool.and_eq_true, decide_eq_true_eq] at h1 h2
          exact ⟨a, b, rfl, h1.1, h1.2, h2.1, h2.2⟩
        | _ => simp [cntD] at h2
      | _ => simp [elD] at h1
  | _ => simp [pairQ] at h
end Loc

set_option Elab.async false
set_option linter.all false
set_option maxRecDepth 100000
set_option maxHeartbeats 2000000
/-! ### an error that was caught, kept as a value -/
namespace Loc
open PySem PySem.Spec PyProof.Rows L2
/-- an error of the class at C, its dict at d -/
def ErrO (C d a : Addr) : HO := .ext fun h => ∃ (oe : Obj) (vs : Array Value), h.get? a = some oe ∧ Zc (.ref C) (some d) oe ∧ oe.data = .fields vs
theorem errO_ok {P : Program} {w : World} {H : Hp} {h : Heap} {C d a : Addr} {oe : Obj} {vs : Array Value} (e : h.get? a = some oe) (z : Zc (.ref C) (some d) oe) (q : oe.data = .fields vs) : ObjOk P w H h a (ErrO C d a) :=
  ⟨⟨oe, vs, e, z, q⟩, ⟨oe, e⟩, fun _ _ ⟨o, v, r1, r2⟩ k => ⟨o, v, k o r1, r2⟩⟩
section
variable {X : Cx} {pins : List (Addr × Obj)} {σ : L2.St} {H : Hp} {s : Shared}
/-- an object that stands there already is looked at from now on -/
theorem Inv.track {a : Addr} {φ : Heap → Prop} (I : Inv X pins σ H s) (na : H a = none) (nL : a ≠ X.env.locals) (n0 : X.s_0.heap.get? a = none) (nP : ∀ p ∈ X.pn ++ pins, p.1 ≠ a) (nC : ∀ x c, X.env.cells.lookup x = some c → c ≠ a)
    (new : ObjOk X.prog X.w (upd H a (.ext φ)) s.heap a (.ext φ)) : Inv X pins σ (upd H a (.ext φ)) s := by
  have far : ∀ {b : Addr} {u : HO}, H b = some u → b ≠ a := fun e z => by
    rw [z, na] at e
    cases e
  have same : ∀ {b : Addr}, b ≠ a → upd H a (.ext φ) b = H b := fun h => upd_ne h
  refine { ok := I.ok, os := I.os, bare := I.bare, base := ?_, loc := I.loc, cell := I.cell, free := ?_, freeC := ?_, pin := ?_, hok := ?_, len := I.len }
  · refine { keep := I.base.keep, slot := I.base.slot, free := ?_, there := I.base.there, tups := ?_, frzs := ?_, tbls := ?_ }
    · intro b o e h1 h2
      have hb : b ≠ a := fun z => by
        rw [z, n0] at e
        cases e
      rw [same hb]
      exact I.base.free b o e h1 h2
    · intro b xs e
      have k := I.base.tups b xs e
      rw [same (far k)]
      exact k
    · intro b o u e
      have k := I.base.frzs b o u e
      rw [same (far k)]
      exact k
    · intro b ps e
      obtain ⟨more, k⟩ := I.base.tbls b ps e
      exact ⟨more, (same (far k)).trans k⟩
  · exact (same nL.symm).trans I.free
  · intro x c e
    exact (same (nC x c e)).trans (I.freeC x c e)
  · intro p hp
    obtain ⟨e1, e2, e3⟩ := I.pin p hp
    exact ⟨e1, (same (nP p hp)).trans e2, e3⟩
  · intro b u e
    by_cases hb : b = a
    · subst hb
      rw [upd_same] at e
      cases e
      exact new
    · rw [same hb] at e
      exact (I.hok b u e).stay (fun c v _ r => r) (fun c r => (same (far r)).trans r) (fun c xs r => (same (far r)).trans r)
end
/-- what is wished of the body's error by 'except x as n: m = n' -/
def wKeep (K : PySem.W.Frag) (c : Value) (i j : Nat) (Wout : WX) (D : Ends) : WX := fun cls d σ H =>
  ∃ b, PySem.W.exmOne K cls c = some b ∧ (b = true → ∃ C dd, cls = .ref C ∧ d = some dd ∧ ∀ a, H a = none → D.nx (((σ.set i (some (.ref a))).set j (some (.ref a))).set i none) (upd H a (ErrO C dd a))) ∧ (b = false → Wout cls d σ H)
section
variable {X : Cx} {x n m : Str} {c : Value} {i j : Nat} {body : List Stmt} {np pos pos' q1 q2 q3 : Pos} {tb : WX → TS} {Wout : WX}
theorem ps_try_keep (hs : X.stack = X.env :: X.outer) (hf : X.env.frame = some X.env.locals) (hN : X.N.Nodup) (hi : X.N[i]? = some n) (hln : X.env.kindOf n = some .local) (hj : X.N[j]? = some m) (hlm : X.env.kindOf m = some .local) (hij : i < X.N.length) (hne : i ≠ j)
    (hex : X.ex = []) (hc : Names X x c) (tk : Takes X Wout) (hdn : (n == ("__debug__" : Str)) = false := by decide) (hcn : (n == ("__classdict__" : Str)) = false := by decide) 
    (hb : ∀ (W : WX) (pn : List (Addr × Obj)) (xe : Value → Shared → Prop), Takes (X.tr pn xe) W → PassesOwn (model X.prog X.w) X.A X.env xe → PSs (X.tr pn xe) body (tb W)) :
    PS X (.Try body [.ExceptHandler (some (.Name x np)) (some n) [.Assign [.Name m q1] (.Name n q2) q3] pos'] [] [] pos) (fun D σ H => tb (wKeep X.K c i j Wout D) D σ H) := by
  constructor
  intro pins s σ H D I h
  have ok := I.ok
  have frs1 : X.A.frames = some (X.env :: X.outer) := ok.frames.trans (congrArg some hs)
  refine wpAny_Try_except ?_
  let after : Value → Shared → Prop := fun e s1 => wpAny (model X.prog X.w) X.A (noteFrame e X.env) (fun _ s2 => wpAny (model X.prog X.w) X.A (setFlight e none) (fun _ s3 =>
      wpAny (model X.prog X.w) X.A (handleBy e X.env [.ExceptHandler (some (.Name x np)) (some n) [.Assign [.Name m q1] (.Name n q2) q3] pos']) (SP X pins D) X.xe s3) X.xe s2) X.xe s1
  have run := (hb (wKeep X.K c i j Wout D) (X.pn ++ pins) after (fun u s' air => ?_) PassesOwn.looking).run [] s σ H D (I.toTry _) h
  · refine wpAny_mono run (fun f s1 hsp => ?_) (fun e s1 he => he)
    cases f with
    | next =>
      obtain ⟨σ1, H1, J, k⟩ := hsp
      exact wpAny_execs_nil ⟨σ1, H1, J.ofTry ok, k⟩
    | ret u =>
      obtain ⟨v, σ1, H1, J, r, k⟩ := hsp
      exact ⟨v, σ1, H1, J.ofTry ok, r, k⟩
    | brk =>
      obtain ⟨σ1, H1, J, k⟩ := hsp
      exact ⟨σ1, H1, J.ofTry ok, k⟩
    | cont =>
      obtain ⟨σ1, H1, J, k⟩ := hsp
      exact ⟨σ1, H1, J.ofTry ok, k⟩
  · obtain ⟨a, B, sI, pins1, σ1, H1, cls, d, rfl, J0, ground, up, sky, na, os, ag, b, hb1, hyes, hno⟩ := air
    have J : Inv X pins σ1 H1 sI := J0.ofTry ok
    show after (.ref a) s'
    show wpAny (model X.prog X.w) X.A (noteFrame (.ref a) X.env) _ _ _
    have sky1 : Sky B (X.env :: X.outer) a (Zc cls d) X.env.locals s'.heap := hs ▸ sky
    have noB : B.get? a = none := by
      rcases sky1 with z | z | z
      · exact z.2.1
      · exact z.2.1
      · exact z.2.1
    refine Sky.land Zc.steady frs1 hf sky1 fun h3 fly up3 => ?_
    have J3 : Inv X pins σ1 H1 { s' with heap := h3 } := J.landed ground fly.1 (up.trans up3) os ag
    obtain ⟨oe3, vs3, he3, hz3, hd3⟩ := fly.there
    have noFr : a ∉ frs (X.env :: X.outer) := fun hm => by
      obtain ⟨_, o', e', hnf⟩ := fly.2.2.1.mem hm
      rw [he3] at e'
      cases e'
      exact hnf _ hd3
    have noL : a ≠ X.env.locals := fun z => noFr (List.mem_filterMap.mpr ⟨X.env, List.mem_cons_self, by rw [hf, z]⟩)
    have noF : a ∉ X.fs := fun hm => by
      obtain ⟨e, he, k⟩ := List.mem_filterMap.mp hm
      exact noFr (List.mem_filterMap.mpr ⟨e, List.mem_cons_of_mem _ he, k⟩)
    have noI : sI.heap.get? a = none := by
      cases e : sI.heap.get? a with
      | none => rfl
      | some o =>
        have := ground a o e (by rw [hs]; exact noFr)
        rw [noB] at this
        cases this
    have no0 : X.s_0.heap.get? a = none := by
      cases e : X.s_0.heap.get? a with
      | none => rfl
      | some o =>
        obtain ⟨o', e'⟩ := J.base.there a o e (by rw [hex]; exact fun z => nomatch z)
        rw [noI] at e'
        cases e'
    have noP : ∀ p ∈ X.pn ++ pins, p.1 ≠ a := fun p hp z => by
      have e := (J.pin p hp).1
      rw [z, noI] at e
      cases e
    have noC : ∀ y k, X.env.cells.lookup y = some k → k ≠ a := fun y k e z => by
      obtain ⟨v, o, ho, _⟩ := J.cell y k e
      rw [z, noI] at ho
      cases ho
    have S3 := J3.suite he3 hd3 na noL noF
    refine wpAny_handleBy_cons (codeAny_handlers_test ?_) (by intro z; cases z)
    have look := PySem.W.exm_one (M := model X.prog X.w) J3.kIn (fun A Q E s k z => wpAny_typeOf_ref (k _ _ he3) (by rw [hz3.1]; exact z)) hb1
    have named : ∀ {Q : Value → Shared → Prop} {E : Value → Shared → Prop}, Q c { s' with heap := h3 } → wpAny (model X.prog X.w) (X.A.mark (some (.ref a))) (eval (.Name x np) X.env) Q E { s' with heap := h3 } := fun {Q E} z => by
      obtain ⟨g1, g2, g3 | ⟨g3, g4, g5⟩⟩ := hc
      · exact ld_glob (X := X.suite a ((a, oe3) :: (X.pn ++ pins))) S3 g1 g3 z g2
      · exact ld_blt (X := X.suite a ((a, oe3) :: (X.pn ++ pins))) S3 g1 g3 g4 z g5 g2
    refine named (look.here ?_)
    cases b with
    | false =>
      show wpAny _ X.A (handleBy (.ref a) X.env []) _ _ _
      refine wpAny_handleBy_nil ?_
      obtain ⟨_, _, _, oe, vs, T, oT, ts', f1, f2, f3, f4, f5⟩ := id fly
      unfold PySem.passOn
      refine wpAny_bind (wpAny_field f1 f3 f4 ?_)
      have nz : ¬ ((Value.ref T == Value.none) = true) := by simp
      rw [if_neg nz]
      have out : wpAny (model X.prog X.w) X.A (setFlight (.ref a) X.env.frame) (fun _ s4 => wpAny (model X.prog X.w) X.A (throw (.ref a) : Sem Flow) (SP X pins D) X.xe s4) X.xe { s' with heap := h3 } := by
        rw [hf]
        refine HandSPX.setFlight_upZ fly fun h4 held up4 => wpAny_throw (tk _ _ ?_)
        refine ⟨a, B, sI, pins, σ1, H1, cls, d, rfl, J, ground, (up.trans up3).trans up4, .inr (.inr ?_), na, os, ag, hno rfl⟩
        rw [hs]
        exact held
      first
        | exact wpAny_bind (wpAny_pure (wpAny_bind out))
        | exact wpAny_bind out
    | true =>
      obtain ⟨C, dd, rfl, rfl, fin⟩ := hyes rfl
      refine codeAny_handlers_suite_as ?_
      refine HandSPX.lands_againZ fly fun h4 fly4 up4 => ?_
      have J4 : Inv X pins σ1 H1 { s' with heap := h4 } := J.landed ground fly4.1 ((up.trans up3).trans up4) os ag
      obtain ⟨oe4, vs4, he4, hz4, hd4⟩ := fly4.there
      have S4 := J4.suite he4 hd4 na noL noF
      refine store_ok (X := X.suite a ((a, oe4) :: (X.pn ++ pins))) (v := .ref a) S4 hN hi (.inl hln) rfl (fun s5 S5 => ?_) (.inr hln)
      have put : PSs (X.suite a ((a, oe4) :: (X.pn ++ pins))) [.Assign [.Name m q1] (.Name n q2) q3] _ := pss_one (ps_set (i := j) hN hj (.inl hlm) (pe_var (i := i) hi (.inl hln) hdn hcn) (hf := .inr hlm))
      have ht : (σ1.set i (some (V.ref a)))[i]? = some (some (V.ref a)) := by
        rw [List.getElem?_set_self]
        rw [J4.len]
        exact hij
      refine wpAny_mono (put.run [] s5 _ H1 { nx := fun σ' H' => σ' = (σ1.set i (some (.ref a))).set j (some (.ref a)) ∧ H' = H1, rt := fun _ _ => False } S5 ⟨.ref a, ht, rfl, rfl⟩) (fun f s6 hsp => ?_) (fun _ _ z => False.elim z)
      cases f with
      | next =>
        obtain ⟨σ6, H6, S6, rfl, rfl⟩ := hsp
        have e6 := (S6.pin (a, oe4) (List.mem_append_left _ List.mem_cons_self)).1
        have T6 : Inv X pins ((σ1.set i (some (.ref a))).set j (some (.ref a))) (upd H6 a (ErrO C dd a)) s6 := Inv.track (S6.unsuite ok) na noL no0 noP noC (errO_ok e6 hz4 hd4)
        exact gone_ok T6 hN hi hln fun s7 J7 => ⟨_, _, J7, fin a na⟩
      | brk =>
        obtain ⟨_, _, _, z⟩ := hsp
        exact False.elim z
      | cont =>
        obtain ⟨_, _, _, z⟩ := hsp
        exact False.elim z
      | ret u =>
        obtain ⟨_, _, _, _, _, z⟩ := hsp
        exact False.elim z
end
end Loc

set_option Elab.async false
set_option linter.all false
set_option maxRecDepth 100000
set_option maxHeartbeats 2000000
/-! ### what is asked of such an error -/
namespace Loc
open PySem PySem.Spec PyProof.Rows L2
/-- what the class at C must say -/
structure ErrC (K : PySem.W.Frag) (C : Addr) : Prop where
  ga : PySem.W.findIn K (.ref C) "__getattribute__" = some (some (.builtin "BaseException.__getattribute__"))
  gg : PySem.W.findIn K (.ref C) "__getattr__" = some none
  sub : PySem.W.subIn K (.ref C) (.type "BaseException") = some true
  hd : PySem.W.hasDictIn K C = true
  at_ : PySem.W.findIn K (.ref C) "__class__" = some (some (.builtin "object.__class__"))
  get : PySem.W.specialIn K (.builtin "object.__class__") "__get__" = some (some (.builtin "getset_descriptor.__get__"))
  tak : PySem.W.takesIn K (.builtin "object.__class__") = some true
  mro : PySem.W.mroIn K C (.type "object") = some true
theorem ErrC.cl {K : PySem.W.Frag} {C : Addr} (h : ErrC K C) : (PySem.W.clsIn K C).isSome = true := by
  obtain ⟨cd, e, _⟩ := PySem.W.any_some h.hd
  rw [e]
  rfl
/-- such an error stands at a: its class, its attributes -/
def Err (H : Hp) (a C : Addr) (fs : List (Str × V)) : Prop := ∃ d, H a = some (ErrO C d a) ∧ H d = some (.xd fs)
theorem Err.same {H H' : Hp} {a C : Addr} {fs : List (Str × V)} (h : Err H a C fs) (s : Same H H') : Err H' a C fs := let ⟨d, e1, e2⟩ := h; ⟨d, s _ _ e1, s _ _ e2⟩
section
variable {X : Cx} {pins : List (Addr × Obj)} {σ : L2.St} {H : Hp} {s : Shared} {a C : Addr} {fs : List (Str × V)}
theorem Err.inst (I : Inv X pins σ H s) (h : Err H a C fs) : ∃ oe od, PySem.W.InstAt s.heap a oe C (some od) ∧ ∀ n v, fs.lookup n = some v → ∃ u, PySem.W.lookIn n od = some (some u) ∧ RelV v u := by
  obtain ⟨d, e1, e2⟩ := h
  have k1 : ObjOk X.prog X.w H s.heap a (ErrO C d a) := I.hok a _ e1
  obtain ⟨⟨oe, vs, g1, g2, g3⟩, _, _⟩ := k1
  have k2 : ObjOk X.prog X.w H s.heap d (.xd fs) := I.hok d _ e2
  obtain ⟨mA, ns, rel⟩ := k2
  obtain ⟨od, ho, hl⟩ := lookIn_ns ns
  refine ⟨oe, od, ⟨g1, g2.1, ?_, ?_⟩, fun n v e => ?_⟩
  · unfold PySem.W.notCls
    rw [g3]
  · rw [g2.2]
    exact ho
  · obtain ⟨u, hu, ru⟩ := RelO.some_of (v := v) (o := mA n) (by rw [← e]; exact rel n)
    exact ⟨u, by rw [hl, hu], ru⟩
/-- isinstance(e, c) -/
def rIsV (K : PySem.W.Frag) : List V → Hp → VK → Prop := fun xs H Q => ∃ (a C : Addr) (fs : List (Str × V)) (c : V) (cv : Value) (b : Bool), xs = [.ref a, c] ∧ Err H a C fs ∧ ErrC K C ∧ ClsV c cv ∧ PySem.W.kitOne K (.ref C) cv = some b ∧ Q (.bl b) H
theorem call_isV : CallR X (.builtin "isinstance") (rIsV X.K) := by
  intro pins s σ H xs us Q I r h
  obtain ⟨a, C, fs, c, cv, b, rfl, he, k, hc, e, q⟩ := h
  obtain ⟨u1, u2, rfl, r1, r2⟩ := vals2 r
  have e2 := hc.eq r2
  subst e2
  cases (show u1 = Value.ref a from r1)
  obtain ⟨oe, od, J, _⟩ := he.inst I
  exact PySem.W.kia_one (PySem.W.kitx_exc k.cl k.ga k.gg k.sub k.at_ k.get k.tak k.mro) I.kIn J e (fun z => nomatch z) fun tk => ⟨.bl b, H, I.tok tk, rfl, q⟩
/-- isinstance(e, (c1, c2, ..)) -/
def rIsVT (K : PySem.W.Frag) : List V → Hp → VK → Prop := fun xs H Q => ∃ (a C tp : Addr) (fs : List (Str × V)) (cs : List V) (cvs : List Value) (b : Bool), xs = [.ref a, .ref tp] ∧ Err H a C fs ∧ ErrC K C ∧ H tp = some (.tup cs) ∧ Paired ClsV cs cvs ∧ PySem.W.kitAny K (.ref C) cvs = some b ∧ Q (.bl b) H
theorem call_isVT : CallR X (.builtin "isinstance") (rIsVT X.K) := by
  intro pins s σ H xs us Q I r h
  obtain ⟨a, C, tp, fs, cs, cvs, b, rfl, he, k, hT, hc, e, q⟩ := h
  obtain ⟨u1, u2, rfl, r1, r2⟩ := vals2 r
  cases (show u1 = Value.ref a from r1)
  cases (show u2 = Value.ref tp from r2)
  obtain ⟨oe, od, J, _⟩ := he.inst I
  have kT : ObjOk X.prog X.w H s.heap tp (.tup cs) := I.hok tp _ hT
  obtain ⟨_, its, rv, o, h1, h2, n, h3⟩ := kT
  have e3 := ClsV.all hc rv
  subst e3
  obtain ⟨oc, od', dt, sl⟩ := o
  simp only at h2 h3
  subst h2 h3
  exact PySem.W.kia_tup (PySem.W.kitx_exc k.cl k.ga k.gg k.sub k.at_ k.get k.tak k.mro) I.kIn J h1 e (fun z => nomatch z) fun tk => ⟨.bl b, H, I.tok tk, rfl, q⟩
/-- e.f -/
def tErrF (K : PySem.W.Frag) (f : Str) (te : TE) : TE := fun σ H Q => te σ H fun x H1 => ∃ (a C : Addr) (fs : List (Str × V)) (v : V), x = .ref a ∧ Err H1 a C fs ∧ ErrC K C ∧ PySem.W.findIn K (.ref C) f = some none ∧ fs.lookup f = some v ∧ Q v H1
theorem pe_errf {e : Expr} {te : TE} {pos : Pos} {n : Str} (he : PE X e te) (hb : attributeBase e n X.env (eval e X.env) = eval e X.env := by rfl) : PE X (.Attribute e n pos) (tErrF X.K n te) := by
  constructor
  intro pins s σ H Q I h
  refine attr_of hb (thn (he.run pins s σ H _ I h) fun u s1 hu => ?_)
  obtain ⟨x, H1, I1, rx, a, C, fs, v, rfl, hE, k, hno, hl, q⟩ := hu
  cases (show u = Value.ref a from rx)
  obtain ⟨oe, od, J, look⟩ := hE.inst I1
  obtain ⟨u, hu, ru⟩ := look n v hl
  exact HandSPX.exc_get I1.kIn J k.ga k.gg k.sub (PySem.W.findObj_own k.hd hno rfl hu) (handed_of ru) ⟨v, H1, I1.tok _, ru, q⟩
end
end Loc

set_option Elab.async false
set_option linter.all false
set_option maxRecDepth 100000
namespace Loc
open PySem PySem.Spec PyProof.Rows L2 LamX
theorem takes_len {X : Cx} {W : WX} {n : Nat} (hn : X.N.length = n) (tk : Takes X W) : Takes X (fun cls d σ H => σ.length = n → W cls d σ H) := fun u s' ⟨a, B, sI, pins, σ, H, cls, d, e, I, nb, up, sky, na, os, ag, w⟩ =>
  tk u s' ⟨a, B, sI, pins, σ, H, cls, d, e, I, nb, up, sky, na, os, ag, w (I.len.trans hn)⟩
/-- all but p and the tables of code objects stays -/
def BT (p : Addr) (H H' : Hp) : Prop := ∀ b o, b ≠ p → H b = some o → (∀ ps, o ≠ .tbl ps) → H' b = some o
theorem BT.of {p : Addr} {H H' : Hp} (h : But p H H') : BT p H H' := fun b o n e _ => h b o n e
theorem BT.ext {p : Addr} {H H' : Hp} (h : ExtN H H') : BT p H H' := fun b o _ e t => h b o e t
theorem BT.trans {p : Addr} {H H1 H2 : Hp} (a : BT p H H1) (b : BT p H1 H2) : BT p H H2 := fun c o n e t => b c o n (a c o n e t) t
theorem BT.sql {p a : Addr} {K : PySem.W.Frag} {H H' : Hp} {xs : List V} (e : BT p H H') (n : a ≠ p) (h : SqL K H a xs) : SqL K H' a xs := by
  rcases h with (h | ⟨o, h⟩) | h
  · exact .inl (.inl (e _ _ n h (fun _ z => by cases z)))
  · exact .inl (.inr ⟨o, e _ _ n h (fun _ z => by cases z)⟩)
  · exact .inr h
theorem ext_sqt {K : PySem.W.Frag} {H H' : Hp} {a : Addr} {xs : List V} (e : ExtN H H') (h : SqT K H a xs) : SqT K H' a xs := by
  rcases h with (h | ⟨o, h⟩) | h
  · exact .inl (.inl (e _ _ h (fun _ z => by cases z)))
  · exact .inl (.inr ⟨o, e _ _ h (fun _ z => by cases z)⟩)
  · exact .inr h
theorem ext_tups {K : PySem.W.Frag} {H H' : Hp} (e : ExtN H H') : Tups K H H' := fun a xs h => ext_sqt e h
theorem ext_pot {H H' : Hp} (e : ExtN H H') {p : Addr} {c : Nat} (h : Pot H p c) : Pot H' p c := by
  obtain ⟨o, e1, a, b, z, rfl, r⟩ := h
  exact ⟨_, e _ _ e1 (fun _ q => by cases q), a, b, z, rfl, r⟩
theorem ext_same {H H' : Hp} (e : Same H H') : ExtN H H' := fun b o h _ => e b o h
theorem tabs_but {T : List (Addr × Str)} {p : Addr} {H H' : Hp} {c : Nat} (t : Tabs T H) (e : But p H H') (hp : Pot H p c) : Tabs T H' := fun x hx => by
  obtain ⟨ps, h1, h2, h3⟩ := t x hx
  obtain ⟨o, ho, own, mix, cnt, rfl, _⟩ := hp
  refine ⟨ps, e _ _ (fun z => by rw [z, ho] at h1; cases h1) h1, h2, fun pos cv hc => ?_⟩
  obtain ⟨k, e1, e2⟩ := h3 pos cv hc
  exact ⟨k, e1, e _ _ (fun z => by rw [z, ho] at e2; cases e2) e2⟩
theorem tabs_same {T : List (Addr × Str)} {H H' : Hp} (t : Tabs T H) (e : Same H H') : Tabs T H' := t.ext e
end Loc
namespace Loc
open PySem PySem.Spec PyProof.Rows L2 LamX
section
variable {P : Program} {w : World} {K : PySem.W.Frag} {mg : Str → Option Value} {base : Heap} {CX : CXT} {k : Nat} {f : Addr} {fd : FuncData} {ps : List Str} {sp : Sp}
/-- as fun_okG, the code object known -/
theorem fun_okGC {x qual : Str} {st : Stmt} {N : List Str} {c : Addr} (F : Fun K x qual st f fd) (code : fd.code = .ref c) (S : FnScope N ps (defScope st)) (len : ∀ vs H Q E, sp vs H Q E → vs.length = ps.length)
    (hb : ∀ (A : Around) (out : List Env) (s : Shared) (H : Hp) (vs : List V) (Q : VK) (E : XK), A.guards = some [] → Room k (A.deeper (envOfC qual (defScope st) s.heap.objs.size f (.ref c))) → sp vs H Q E →
      ∃ t, PSs (cxOf CX P w K mg base N qual (defScope st) f (.ref c) A out s H E).nox (defBody st) t ∧ t { nx := fun _ H' => Q .non H', rt := Q } (L2.start N vs) H) :
    FnG P w K mg base CX (k + 1) f fd ps sp := by
  obtain ⟨⟨oc, od, kV, doc, pm, an, cdv, ct, osl, e, lk, hcd⟩, kp⟩ := F
  have e1 : cdv = .ref c := by
    rw [e] at code
    exact code
  subst e1
  refine ⟨fun h => len _ _ _ _ h, fun {A out s H ar us vs Q E} hg hr e0 hbd r hsp => ?_⟩
  subst e
  refine run_ofS lk hcd S hr e0 hbd r (len _ _ _ _ hsp) fun hr' => ?_
  obtain ⟨t, ht, hq⟩ := hb A out s H vs Q E hg hr' hsp
  exact ⟨t, ht.nox, hq⟩
end
end Loc

set_option Elab.async false
set_option linter.all false
set_option maxRecDepth 100000
/-! ### the text of data holds signs alone; data where tables of code objects are written -/
namespace Loc
open PySem PySem.Spec PyProof.Rows L2
theorem txt_ok (s : String) : PyData.strOk (Str.ofString s) = true := by
  unfold PyData.strOk
  rw [Array.all_eq_true_iff_forall_mem]
  intro x hx
  unfold Str.ofString at hx
  rw [cpsOfBytes_string] at hx
  obtain ⟨c, _, rfl⟩ := List.mem_map.mp (List.mem_toArray.mp hx)
  have hc : c.toNat < 1114112 := by
    rcases c.valid with h | ⟨_, h⟩
    · exact Nat.lt_trans h (by decide)
    · exact h
  exact decide_eq_true hc
theorem app_ok {a b : Str} (ha : PyData.strOk a = true) (hb : PyData.strOk b = true) : PyData.strOk (a ++ b) = true := by
  show (a.cps ++ b.cps).all (fun c => decide (c < 0x110000)) = true
  rw [Array.all_append, Bool.and_eq_true]
  exact ⟨ha, hb⟩
theorem join_ok {sep : Str} (hs : PyData.strOk sep = true) : ∀ ts : List Str, (∀ t ∈ ts, PyData.strOk t = true) → PyData.strOk (Str.join sep ts) = true
  | [], _ => by simp [Str.join, Str.empty, PyData.strOk]
  | [x], h => h x List.mem_cons_self
  | x :: y :: r, h => app_ok (app_ok (h x List.mem_cons_self) hs) (join_ok hs (y :: r) fun t ht => h t (List.mem_cons_of_mem _ ht))
theorem from_ok : ∀ (ts : List Str) (k : Nat) (acc : Str), PyData.strOk acc = true → (∀ t ∈ ts, PyData.strOk t = true) → PyData.strOk (textFrom k acc ts) = true
  | [], _, _, h, _ => h
  | t :: r, k, acc, h, ht => from_ok r (k + 1) _ (app_ok (app_ok h (txt_ok _)) (ht t List.mem_cons_self)) fun u hu => ht u (List.mem_cons_of_mem _ hu)
mutual
/-- every text within has a repr of signs -/
def sOk : PyData → Bool
  | .none => true
  | .bool _ => true
  | .int _ => true
  | .str x => PyData.strOk (reprText x)
  | .list xs => sOkAll xs
  | .tuple xs => sOkAll xs
  | .dict kvs => sOkKv kvs
def sOkAll : List PyData → Bool
  | [] => true
  | x :: r => sOk x && sOkAll r
def sOkKv : List (PyData × PyData) → Bool
  | [] => true
  | (k, v) :: r => sOk k && sOk v && sOkKv r
end
mutual
theorem shown_ok : ∀ d : PyData, sOk d = true → PyData.strOk d.shown = true
  | .none, _ => by
    rw [PyData.shown]
    exact txt_ok _
  | .bool b, _ => by
    rw [PyData.shown]
    cases b <;> exact txt_ok _
  | .int i, _ => by
    rw [PyData.shown_int]
    exact txt_ok _
  | .str x, h => by
    rw [PyData.shown]
    rw [sOk] at h
    exact h
  | .list xs, h => by
    rw [sOk] at h
    rw [PyData.shown]
    exact app_ok (from_ok _ _ _ (txt_ok _) (shownAll_ok xs h)) (txt_ok _)
  | .tuple xs, h => by
    rw [sOk] at h
    rw [PyData.shown]
    exact app_ok (app_ok (txt_ok _) (join_ok (txt_ok _) _ (shownAll_ok xs h))) (txt_ok _)
  | .dict kvs, h => by
    rw [sOk] at h
    rw [PyData.shown]
    exact app_ok (app_ok (txt_ok _) (join_ok (txt_ok _) _ (shownKv_ok kvs h))) (txt_ok _)
theorem shownAll_ok : ∀ ds : List PyData, sOkAll ds = true → ∀ t ∈ PyData.shownAll ds, PyData.strOk t = true
  | [], _ => by
    rw [PyData.shownAll]
    exact fun t ht => nomatch ht
  | d :: r, h => by
    rw [sOkAll, Bool.and_eq_true] at h
    rw [PyData.shownAll]
    intro t ht
    rcases List.mem_cons.mp ht with rfl | ht
    · exact shown_ok d h.1
    · exact shownAll_ok r h.2 t ht
theorem shownKv_ok : ∀ kvs : List (PyData × PyData), sOkKv kvs = true → ∀ t ∈ PyData.shownKv kvs, PyData.strOk t = true
  | [], _ => by
    rw [PyData.shownKv]
    exact fun t ht => nomatch ht
  | (k, v) :: r, h => by
    rw [sOkKv, Bool.and_eq_true, Bool.and_eq_true] at h
    rw [PyData.shownKv]
    intro t ht
    rcases List.mem_cons.mp ht with rfl | ht
    · exact app_ok (app_ok (shown_ok k h.1.1) (txt_ok _)) (shown_ok v h.1.2)
    · exact shownKv_ok r h.2 t ht
end
theorem ext_sqL {K : PySem.W.Frag} {H H' : Hp} {a : Addr} {xs : List V} (e : LamX.ExtN H H') (h : SqL K H a xs) : SqL K H' a xs := by
  rcases h with (h | ⟨o, h⟩) | h
  · exact .inl (.inl (e _ _ h (fun _ z => by cases z)))
  · exact .inl (.inr ⟨o, e _ _ h (fun _ z => by cases z)⟩)
  · exact .inr h
mutual
theorem Dq.ext {K : PySem.W.Frag} {H H' : Hp} (e : LamX.ExtN H H') : ∀ {v : V} {d : PyData}, Dq K H v d → Dq K H' v d
  | _, _, .non => .non
  | _, _, .bl b => .bl b
  | _, _, .int i => .int i
  | _, _, .str x => .str x
  | _, _, .lst h t => .lst (ext_sqL e h) (DqAll.ext e t)
  | _, _, .tup h t => .tup (ext_sqt e h) (DqAll.ext e t)
  | _, _, .dct h t => .dct (e _ _ h (fun _ z => by cases z)) (DqKv.ext e t)
theorem DqAll.ext {K : PySem.W.Frag} {H H' : Hp} (e : LamX.ExtN H H') : ∀ {vs : List V} {ds : List PyData}, DqAll K H vs ds → DqAll K H' vs ds
  | _, _, .nil => .nil
  | _, _, .cons h t => .cons (Dq.ext e h) (DqAll.ext e t)
theorem DqKv.ext {K : PySem.W.Frag} {H H' : Hp} (e : LamX.ExtN H H') : ∀ {vs : List (Key × V)} {ds : List (PyData × PyData)}, DqKv K H vs ds → DqKv K H' vs ds
  | _, _, .nil => .nil
  | _, _, .cons h t => .cons (Dq.ext e h) (DqKv.ext e t)
end
theorem BT.tups {p : Addr} {c : Nat} {K : PySem.W.Frag} {H H' : Hp} (e : BT p H H') (hp : Pot H p c) : Tups K H H' := fun a xs h => by
  obtain ⟨o, ho, own, mix, cnt, rfl, _⟩ := hp
  rcases h with (h | ⟨o', h⟩) | h
  · exact .inl (.inl (e _ _ (fun z => by rw [z, ho] at h; cases h) h (fun _ z => by cases z)))
  · exact .inl (.inr ⟨o', e _ _ (fun z => by rw [z, ho] at h; cases h) h (fun _ z => by cases z)⟩)
  · exact .inr h
theorem ext_wo {S : Addr → Prop} {p : Addr} {H H' : Hp} (hp : S p) (e : BT p H H') : LamX.ExtN (wo S H) (wo S H') := fun b o h t => by
  by_cases z : S b
  · rw [wo_in z] at h
    cases h
  · rw [wo_ne z] at h ⊢
    exact e b o (fun q => z (by rw [q]; exact hp)) h t
end Loc

set_option Elab.async false
set_option linter.all false
set_option maxRecDepth 100000
/-! ### how great the data of a node is -/
namespace Loc
open PySem PySem.Spec PyProof.Rows L2
def bd : Nat → Nat
  | 0 => 0
  | l + 1 => 3 * (bd l + 7) + 7
theorem word_k : nc 0 (.str "run") = true ∧ nc 0 (.str "block") = true ∧ sOk (.str "run") = true ∧ sOk (.str "block") = true ∧ PyData.bulk (.str "run") = 3 ∧ PyData.bulk (.str "block") = 5 := by
  refine ⟨by decide +kernel, by decide +kernel, by decide +kernel, by decide +kernel, by decide +kernel, by decide +kernel⟩
mutual
theorem dat_k : ∀ (n : Nd) (l : Nat), Ok n l → (nc 0 (dat n) = true ∧ sOk (dat n) = true) ∧ (dat n).depth ≤ 3 * l + (if n.isRun = true then 1 else 0) ∧ (dat n).bulk ≤ bd l + (if n.isRun = true then 6 else 0)
  | .el k, l, h => by
    rw [Ok] at h
    rw [dat]
    refine ⟨⟨?_, by rw [sOk]⟩, by simp [PyData.depth], by simp [PyData.bulk]⟩
    rw [nc]
    exact decide_eq_true (Nat.le_trans h.2 (by decide))
  | .run b c, l, h => by
    rw [Ok] at h
    obtain ⟨_, h2, h3, h4⟩ := h
    obtain ⟨⟨i1, i2⟩, i3, i4⟩ := dat_k b l h4
    rw [h3, if_neg Bool.false_ne_true] at i3 i4
    have ec : nc 0 (.int (c : Int)) = true := by
      rw [nc]
      exact decide_eq_true (Nat.le_trans h2 (by decide))
    have er : Nd.isRun (.run b c) = true := rfl
    rw [dat, er, if_pos rfl, if_pos rfl]
    refine ⟨⟨by rw [nc, ncAll, ncAll, ncAll, ncAll, word_k.1, i1, ec]; rfl, by rw [sOk, sOkAll, sOkAll, sOkAll, sOkAll, word_k.2.2.1, i2, sOk]; rfl⟩, ?_, ?_⟩
    · simp [PyData.depth, PyData.depthAll]
      omega
    · have e1 := word_k.2.2.2.2.1
      have e2 : PyData.bulk (.int (c : Int)) = 0 := rfl
      show PyData.bulk _ + 1 + (PyData.bulk _ + 1 + (PyData.bulk _ + 1 + 0)) ≤ _
      rw [e1, e2]
      omega
  | .blk ps, l, h => by
    rw [Ok] at h
    obtain ⟨h1, _, h3, h4, _⟩ := h
    obtain ⟨l', rfl⟩ : ∃ m, l = m + 1 := ⟨l - 1, by omega⟩
    obtain ⟨⟨i1, i2⟩, i3, i4⟩ := dats_k ps l' h4
    have er : Nd.isRun (.blk ps) = false := rfl
    rw [dat, er, if_neg Bool.false_ne_true, if_neg Bool.false_ne_true]
    refine ⟨⟨by rw [nc, ncAll, word_k.2.1, ncAll, nc, i1]; rfl, by rw [sOk, sOkAll, word_k.2.2.2.1, sOkAll, sOk, i2]; rfl⟩, ?_, ?_⟩
    · simp [PyData.depth, PyData.depthAll]
      omega
    · have e1 := word_k.2.2.2.2.2
      show PyData.bulk _ + 1 + (PyData.bulkAll (datAll ps) + 1 + 0) ≤ _
      rw [e1]
      have : ps.length * (bd l' + 7) ≤ 3 * (bd l' + 7) := Nat.mul_le_mul_right _ h3
      rw [bd]
      omega
theorem dats_k : ∀ (ns : List Nd) (l : Nat), OkAll ns l → (ncAll 0 (datAll ns) = true ∧ sOkAll (datAll ns) = true) ∧ PyData.depthAll (datAll ns) ≤ 3 * l + 1 ∧ PyData.bulkAll (datAll ns) ≤ ns.length * (bd l + 7)
  | [], l, _ => by
    rw [datAll]
    refine ⟨⟨by rw [ncAll], by rw [sOkAll]⟩, by simp [PyData.depthAll], by simp [PyData.bulkAll]⟩
  | n :: r, l, h => by
    rw [OkAll] at h
    obtain ⟨⟨i1, i2⟩, i3, i4⟩ := dat_k n l h.1
    obtain ⟨⟨j1, j2⟩, j3, j4⟩ := dats_k r l h.2
    rw [datAll]
    refine ⟨⟨by rw [ncAll, i1, j1]; rfl, by rw [sOkAll, i2, j2]; rfl⟩, ?_, ?_⟩
    · simp only [PyData.depthAll]
      split at i3 <;> omega
    · simp only [PyData.bulkAll, List.length_cons, Nat.succ_mul]
      split at i4 <;> omega
end
/-- .. so its repr can be asked for -/
theorem dat_sm {n : Nd} {l m b : Nat} (h : Ok n l) (hm : 3 * l + 1 ≤ m) (hb : bd l + 6 ≤ b) : sm 0 m b (dat n) ∧ sOk (dat n) = true := by
  obtain ⟨⟨i1, i2⟩, i3, i4⟩ := dat_k n l h
  refine ⟨⟨i1, ?_, ?_⟩, i2⟩
  · split at i3 <;> omega
  · split at i4 <;> omega
mutual
/-- plain data within all data -/
theorem dq_dp {K : PySem.W.Frag} {H : Hp} : ∀ {v : V} {d : PyData}, Dp K H v d → Dq K H v d
  | _, _, .non => .non
  | _, _, .bl b => .bl b
  | _, _, .int i => .int i
  | _, _, .str x => .str x
  | _, _, .lst h t => .lst h (dqA_dp t)
  | _, _, .tup h t => .tup h (dqA_dp t)
theorem dqA_dp {K : PySem.W.Frag} {H : Hp} : ∀ {vs : List V} {ds : List PyData}, DpAll K H vs ds → DqAll K H vs ds
  | _, _, .nil => .nil
  | _, _, .cons h t => .cons (dq_dp h) (dqA_dp t)
end
end Loc

set_option Elab.async false
set_option linter.all false
set_option maxRecDepth 100000
set_option maxHeartbeats 2000000
/-! ### any value and a text compared -/
namespace Loc
open PySem PySem.Spec PyProof.Rows L2
open PySem.SeqAt in
theorem dict_no_str (l : Addr) (es : Array DictEntry) (n1 n2 n3 : Nat) (dd : Option Addr) (sl : Array (Option Value)) (x : Str) (u : Tok) :
    Meets (Builtin.«dict.__eq__» ⟨[.ref l, .str x u], []⟩) (fun _ R s => s.heap.get? l = some { cls := .type "dict", dict := dd, data := .dict es n1, slots := sl } ∧ R (.ok (.ret .notImplemented)) s) :=
  .of_wp fun prog w A R s h => by obtain ⟨hp, g, d, tk, os⟩ := s; obtain ⟨hl, h⟩ := h; have f1 := F.sub_str_dict; wp_walk using wpAny_loadPart' hl; exact ⟨_, rfl, h⟩
open PySem.SeqAt in
theorem str_no_dict (x : Str) (u : Tok) (l : Addr) (es : Array DictEntry) (n1 : Nat) (dd : Option Addr) (sl : Array (Option Value)) :
    Meets (Builtin.«str.__eq__» ⟨[.str x u, .ref l], []⟩) (fun _ R s => s.heap.get? l = some { cls := .type "dict", dict := dd, data := .dict es n1, slots := sl } ∧ R (.ok (.ret .notImplemented)) s) :=
  .of_wp fun prog w A R s h => by obtain ⟨hp, g, d, tk, os⟩ := s; obtain ⟨hl, h⟩ := h; wp_walk using wpAny_loadPart' hl, wpAny_load hl; exact ⟨_, rfl, h⟩
section
variable {A : Around} {s : Shared}
open PySem.SeqAt in
theorem rc_dict_str {l : Addr} {o : Obj} {es : Array DictEntry} {n1 : Nat} (x : Str) (u : Tok) (ho : s.heap.get? l = some o) (hc : o.cls = .type "dict") (hd : o.data = .dict es n1) (hu : A.units < cLine) : RcAt A s (.ref l) (.str x u) false := fun prog w E Q h => by
  obtain ⟨cls, dd, data, sl⟩ := o
  simp only at hc hd
  subst hc hd
  exact rc_eq_decline_or (k := false) ⟨_, ho, rfl⟩ (typeIs_str s x u) (by decide) F.sub_str_dict F.slot_dict_eq F.slot_str_eq_refl
    (fun _ hq => call_meets F.slot_dict_eq ⟨_, ho, rfl⟩ F.entry_dict_eq (F.args_dict_eq_2 _ _) (dict_no_str l es n1 0 0 dd sl x u) ⟨ho, hq⟩)
    (fun _ hq => call_meets F.slot_str_eq_refl (typeIs_str s x u) F.entry_str_eq (F.args_str_eq_2 _ _) (str_no_dict x u l es n1 dd sl) ⟨ho, hq⟩)
    (fun _ hq => wpAny_of_eq (rfl : isSame (.ref l) (.str x u) = pure false) hq) (.inr hu) h
end
/-- data that is this text -/
def eqS (z : Str) : PyData → Bool
  | .str x => x == z
  | _ => false
section
variable {X : Cx} {pins : List (Addr × Obj)} {σ : L2.St} {H : Hp} {s : Shared} {A : Around}
theorem rc_any_str (I : Inv X pins σ H s) (hu : A.units < cLine) {v : V} {d : PyData} {u : Value} (h : Dq X.K H v d) (r : RelV v u) (x : Str) (t : Tok) : SeqAt.RcAt A s u (.str x t) (eqS x d) := by
  cases h with
  | non =>
    cases r
    exact SeqAt.RcAt.none_str x t
  | bl b =>
    cases r
    exact SeqAt.RcAt.bool_str b x t
  | int i =>
    obtain ⟨t', rfl⟩ := r
    exact SeqAt.RcAt.int_str i t' x t
  | str y =>
    obtain ⟨t', rfl⟩ := r
    exact SeqAt.RcAt.str_str y t' x t
  | lst hq ha =>
    cases r
    obtain ⟨its, rv, ⟨o, n, ho, hc, _, hd⟩, _⟩ := I.list hq
    exact SeqAt.RcAt.list_str (items := its.toArray) x t ⟨o, ho, hc, n, hd⟩ hu
  | tup hq ha =>
    cases r
    obtain ⟨its, rv, ⟨o, ho, hc, n, hd⟩, _⟩ := I.tuple hq
    exact SeqAt.RcAt.tuple_str (items := its.toArray) x t ⟨o, ho, hc, n, hd⟩ hu
  | dct hq ha =>
    cases r
    obtain ⟨_, hm, vs, kv, o, es, n, ho, hx, hd, _, hp, _⟩ := dk_rd I.hok (.inl hq)
    exact rc_dict_str x t ho hx.1 hd hu
theorem eq_any_str (I : Inv X pins σ H s) (hu : A.units < cLine) {v : V} {d : PyData} {u : Value} (h : Dq X.K H v d) (r : RelV v u) (x : Str) (t : Tok) : SeqAt.EqAt A s u (.str x t) (eqS x d) := by
  have rc := rc_any_str I hu h r x t
  cases h with
  | str y =>
    obtain ⟨t', rfl⟩ := r
    exact SeqAt.EqAt.str_str y t' x t
  | int i =>
    obtain ⟨t', rfl⟩ := r
    exact SeqAt.EqAt.int_str i t' x t
  | _ =>
    cases r
    intro prog w E Q hq
    unfold eqBool
    refine wpAny_holding (wpAny_ite_split (fun hab => absurd (eq_of_beq hab) nofun) fun _ => ?_)
    exact wpAny_bind (rc prog w E _ (wpAny_truthy_bool hq))
/-- v == "x", v any value -/
def rEqS (K : PySem.W.Frag) : R2 := fun x y H Q => ∃ d z, Dq K H x d ∧ y = .str z ∧ Q (.bl (eqS z d)) H
theorem op_eqS (hu : X.A.units + 64 < cLine) : OpR X (compareOp .Eq) (rEqS X.K) := by
  intro pins s σ H x y v u Q I rx ry h
  obtain ⟨d, z, hd, rfl, q⟩ := h
  obtain ⟨t, rfl⟩ := ry
  exact rc_any_str (A := X.A) I (by omega) hd rx z t _ _ _ _ ⟨.bl _, H, I, rfl, q⟩
/-- what data begins with this word -/
def isTag (z : Str) : PyData → Bool
  | .tuple (d :: _) => eqS z d
  | _ => false
/-- t == ("x",), t of at most one value -/
def rTag (K : PySem.W.Frag) : R2 := fun x y H Q => ∃ (a b : Addr) (xs : List V) (ds : List PyData) (z : Str), x = .ref a ∧ y = .ref b ∧ SqT K H a xs ∧ DqAll K H xs ds ∧ ds.length ≤ 1 ∧ SqT K H b [.str z] ∧ Q (.bl (isTag z (.tuple ds))) H
theorem op_tag (hu : X.A.units + 64 < cLine) : OpR X (compareOp .Eq) (rTag X.K) := by
  intro pins s σ H x y v u Q I rx ry h
  obtain ⟨a, b, xs, ds, z, rfl, rfl, ha, hd, ld, hb, q⟩ := h
  cases rx
  cases ry
  obtain ⟨its, r1, p1, _⟩ := I.tuple ha
  obtain ⟨its2, r2, p2, _⟩ := I.tuple hb
  cases r2 with
  | cons rz rn =>
    cases rn
    obtain ⟨t, rfl⟩ := rz
    cases hd with
    | nil =>
      cases r1
      exact SeqAt.RcAt.tuples (A := X.A) (e := fun _ => true) p1 p2 (by omega) (fun j h1 h2 => absurd h1 (Nat.not_lt_zero j)) _ _ _ _ ⟨.bl false, H, I, rfl, q⟩
    | @cons v vs d ds h1 h2 =>
      have e0 : ds = [] := List.eq_nil_of_length_eq_zero (by rw [List.length_cons] at ld; omega)
      subst e0
      cases h2
      cases r1 with
      | @cons _ u0 _ ur rv rr =>
        cases rr
        refine SeqAt.RcAt.tuples (A := X.A) (e := fun _ => eqS z d) p1 p2 (by omega) (fun j k1 k2 => ?_) _ _ _ _ ⟨.bl (eqS z d), H, I, ?_, q⟩
        · obtain rfl : j = 0 := by
            have : j < 1 := k2
            omega
          exact eq_any_str (A := X.A.in1) I (by show X.A.units + 1 < cLine; omega) h1 rv z t
        · show Value.bool _ = Value.bool _
          simp
/-- t == () -/
def rEqT0 (K : PySem.W.Frag) : R2 := fun x y H Q => ∃ a b xs, x = .ref a ∧ y = .ref b ∧ SqT K H a xs ∧ SqT K H b [] ∧ Q (.bl xs.isEmpty) H
theorem op_eqT0 (hu : X.A.units + 64 < cLine) : OpR X (compareOp .Eq) (rEqT0 X.K) := by
  intro pins s σ H x y v u Q I rx ry h
  obtain ⟨a, b, xs, rfl, rfl, ha, hb, q⟩ := h
  cases rx
  cases ry
  obtain ⟨its, r1, p1, _⟩ := I.tuple ha
  obtain ⟨its2, r2, p2, _⟩ := I.tuple hb
  cases r2
  refine SeqAt.RcAt.tuples (A := X.A) (e := fun _ => true) p1 p2 (by omega) (fun j h1 h2 => absurd h2 (Nat.not_lt_zero j)) _ _ _ _ ⟨.bl xs.isEmpty, H, I, ?_, q⟩
  show Value.bool _ = Value.bool _
  cases xs with
  | nil =>
    cases r1
    rfl
  | cons x r =>
    cases r1
    rfl
end
end Loc

set_option Elab.async false
set_option linter.all false
set_option maxRecDepth 100000
set_option maxHeartbeats 2000000
/-! ### len(set(xs)) of a few whole numbers -/
namespace Loc
open PySem PySem.Spec PyProof.Rows L2
def cntS (ns : List Int) : Nat := (PyProof.Rows.firstMet (fun i => ns.getD i 0) ns.length).length
theorem cnt_two (a b : Int) : 1 < cntS [a, b] ↔ a ≠ b := by
  unfold cntS PyProof.Rows.firstMet PyProof.Rows.step_dedup
  by_cases h : a = b
  · subst h
    simp [List.range, List.range.loop]
  · simp [List.range, List.range.loop, h, Ne.symm h]
theorem cnt_three (a b c : Int) : 1 < cntS [a, b, c] ↔ ¬ (a = b ∧ b = c) := by
  unfold cntS PyProof.Rows.firstMet PyProof.Rows.step_dedup
  by_cases h : a = b
  · subst h
    by_cases k : a = c
    · subst k
      simp [List.range, List.range.loop]
    · simp [List.range, List.range.loop, k, Ne.symm k]
  · by_cases k : a = c
    · subst k
      simp [List.range, List.range.loop, h, Ne.symm h]
    · by_cases m : b = c
      · subst m
        simp [List.range, List.range.loop, h, Ne.symm h]
      · simp [List.range, List.range.loop, h, k, m, Ne.symm h, Ne.symm k, Ne.symm m]
section
variable {X : Cx}
def tLenSetA (K : PySem.W.Frag) (ta : TE) : TE := fun σ H Q => ta σ H fun x H1 => ∃ (l : Addr) (ns : List Int), x = V.ref l ∧ SqL K H1 l (ns.map V.int) ∧ ns.length < 60 ∧ Q (.int (cntS ns : Nat)) H1
theorem pe_lenSetA {a : Expr} {ta : TE} {p p2 q pos : Pos} (calm : X.calm = true) (gl : Gl X "len") (ml : X.mg "len" = none) (gs : Gl X "set") (ms : X.mg "set" = none) (ha : PE X a ta)
    (one : starEach [a] X.env = (false, eval a X.env) :: starEach [] X.env := by rfl) : PE X (.Call (.Name "len" p) [.Call (.Name "set" p2) [a] [] q] [] pos) (tLenSetA X.K ta) := by
  refine ⟨fun pins s σ H Q J hyp => Call_ (ld_blt J gl ml PySem.boot_len (PyProof.Rows.callWith_builtin1 (PyProof.Rows.args_cons (Call_ (ld_blt J gs ms PyProof.Rows.boot_set ?_)) rfl) rfl rfl))⟩
  refine PyProof.Rows.callWith_type1 (PyProof.Rows.args_cons (thn (ha.run pins s σ H _ J hyp) fun v s1 ⟨x, H1, J1, r1, q1⟩ => PyProof.Rows.args_nil ?_) one) one rfl
  obtain ⟨l, ns, rfl, hq, h1, q1⟩ := q1
  cases r1
  obtain ⟨its, r, pl, hz⟩ := J1.list hq
  have hl : its.toArray.size = ns.length := by rw [List.size_toArray, ← r.length, List.length_map]
  refine call_set_list (J1.ok.hd calm) pl.isList (ns := ns) (by simpa using r.ints) (by unfold scanBound; omega) fun h' tk hS hk => ?_
  rw [hl] at hS
  have lc : cntS ns ≤ ns.length := PyProof.Rows.firstMet_length_le _ _
  refine PyProof.Rows.args_nil ?_
  obtain ⟨o, es, ep, t, ho, hex, hd, _, _, _, hf, hn⟩ := hS
  have J2 : Inv X pins σ H1 { s1 with heap := h', toks := tk } := J1.kept fun b o e => hk b o (Heap.lt_size e) e
  have hn' : es.size = cntS ns := hn
  refine call_len_set ho hex hd hf (by rw [hn'] <;> omega) ⟨.int (cntS ns : Nat), H1, J2.tok _, ⟨_, by rw [hn']⟩, q1⟩
end
end Loc

set_option Elab.async false
set_option linter.all false
set_option maxRecDepth 100000
namespace C01
open PySem PySem.Spec PyProof.Rows L2 Loc RZ
def topS (i : Nat) : Stmt := PySem.Challenge.pw_localblocks_k01_nodes_of_any_value.main.body.getD i (.Pass ⟨0, 0, 0, 0⟩)
abbrev sWhole : Stmt := topS 1
abbrev sElement : Stmt := topS 2
abbrev sCount : Stmt := topS 3
abbrev sIsRun : Stmt := topS 4
abbrev sIsBlk : Stmt := topS 5
abbrev sBase : Stmt := topS 6
abbrev sIsNode : Stmt := topS 7
abbrev sParts : Stmt := topS 8
abbrev sFit : Stmt := topS 9
abbrev sLevel : Stmt := topS 10
abbrev sPot : Stmt := topS 12
abbrev sTake : Stmt := topS 13
abbrev sOf : Stmt := topS 14
abbrev sGround : Stmt := topS 15
abbrev sLeaf : Stmt := topS 16
abbrev sRow : Stmt := topS 17
abbrev sBlock : Stmt := topS 18
abbrev sTwins : Stmt := topS 19
abbrev sUnlike : Stmt := topS 20
abbrev sOdd : Stmt := topS 21
abbrev sBent : Stmt := topS 22
abbrev sLWhole : Stmt := topS 23
abbrev sLLevel : Stmt := topS 24
abbrev sLaw : Stmt := topS 25
end C01

set_option Elab.async false
set_option linter.all false
set_option maxRecDepth 100000
namespace C01
open PySem PySem.Spec PyProof.Rows L2 Loc RZ
/-! ### the law's pot -/
section
variable {P : Program} {w : World} {K : PySem.W.Frag} {mg : Str → Option Value} {base : Heap}
theorem scPot : FnScope ["script", "k", "cell", "own"] ["script", "k"] (defScope sPot) := ⟨rfl, rfl, rfl, by decide +kernel, rfl, by decide +kernel, by decide +kernel⟩
theorem scTake : FnScope ["pot", "bound", "digit", "prime", "mixed"] ["pot", "bound"] (defScope sTake) := ⟨rfl, rfl, rfl, by decide +kernel, rfl, by decide +kernel, by decide +kernel⟩
theorem ok_pot {f : Addr} {fd : FuncData} {k : Nat} (F : Fun K "_law_pot" "_law_pot" sPot f fd) (ml : mg "len" = none) (ma : mg "abs" = none) (mi : mg "int" = none) :
    FnOk P w K mg base CX0 (k + 1) f fd ["script", "k"] (spPot K) := by
  refine F.ok scPot (fun vs H Q E h => ?_) (fun cdv A outer s H vs Q E hr h => ?_)
  · obtain ⟨a, ns, k, rfl, _⟩ := h
    rfl
  · obtain ⟨a, ns, k, rfl, hS, hl, hk, q⟩ := h
    refine ⟨_, pss_cons (ps_set (i := 2) scPot.nd rfl (.inl rfl) (pe_ifExp (pt_cmpR op_lt (pv 1) (pe_callB call_len_seq (by rfl) ml PySem.boot_len (pa_cons (pv 0) pa_nil)) (nomark _))
          (pe_ix ix_list (pv 0) (pv 1) (fun _ _ => rfl)) (pe_op op_add (pe_op op_mul pe_int (pv 1)) pe_int)))
      (pss_cons (ps_set (i := 3) scPot.nd rfl (.inl rfl) (pe_op op_mul
          (pe_op op_mod (pe_callB call_abs (by rfl) ma (by decide +kernel) (pa_cons (pv 2) pa_nil)) (pe_op op_powW (pe_op op_pow pe_int pe_int) pe_int))
          (pe_callTy call_int1 (by rfl) mi (by decide +kernel) (pa_cons (pe_cmpR op_ge (pe_callB call_abs (by rfl) ma (by decide +kernel) (pa_cons (pv 2) pa_nil)) (pe_op op_pow pe_int pe_int) (nomark _)) pa_nil))))
      (pss_one (ps_ret (pe_lst (pa_cons (pv 3) (pa_cons (pe_op op_mod (pe_op op_add (pe_op op_add (pe_op op_mul (pe_op op_mod (pv 2) pe_int) pe_int) (pe_op op_mul (pe_op op_mul pe_int (pv 1)) (pv 1))) pe_int) pe_int)
          (pa_cons pe_int pa_nil))))))), ?_⟩
    refine ⟨.int k, rfl, .ref a, rfl, a, ns.map V.int, rfl, .inl hS, k, (ns.map V.int).length, rfl, rfl, _, rfl, ?_⟩
    refine joinIf (fun v H' => (∃ c : Int, v = .int c) ∧ H' = H) ?key (fun e R hR => ?yes) (fun e R hR => ?no)
    case yes =>
      have e1 : (k : Int) < ((ns.map V.int).length : Int) := of_decide_eq_true e
      rw [List.length_map] at e1
      have hk2 : k < ns.length := by omega
      refine ⟨.ref a, rfl, .int k, rfl, a, _, k, .int ns[k], rfl, rfl, hS, atI_nat (by rw [List.getElem?_map, List.getElem?_eq_getElem hk2]; rfl), hR _ _ ⟨⟨_, rfl⟩, rfl⟩⟩
    case no =>
      exact ⟨.int k, rfl, 17, k, rfl, rfl, .inl ⟨by decide, by decide⟩, _, _, rfl, rfl, hR _ _ ⟨⟨_, rfl⟩, rfl⟩⟩
    case key =>
      rintro v H' ⟨⟨c, rfl⟩, rfl⟩
      refine ⟨.int c, rfl, c, rfl, 10, 60, rfl, rfl, ⟨by decide, by decide, by decide⟩, _, _, rfl, rfl, pow60, _, _, rfl, rfl, pow300', ?_⟩
      have m1 := mod_pos (a := if c < 0 then -c else c) pow300'
      have m2 := pow300
      refine ⟨.int c, rfl, c, rfl, 10, 18, rfl, rfl, ⟨by decide, by decide, by decide⟩, _, _, rfl, rfl, .inr ⟨_, rfl, _, _, rfl, rfl, .inr ?_, ?_⟩⟩
      · exact bit_small _
      have m3 := mul_bit ⟨m1.1, Int.lt_trans m1.2 m2⟩ (decide ((10 : Int) ^ (18 : Int).toNat ≤ if c < 0 then -c else c))
      have m4 := mod_pos (a := c) (show (0 : Int) < 2305843009213693951 by decide)
      refine ⟨_, rfl, .int c, rfl, c, _, rfl, rfl, (by show (0 : Int) < 2305843009213693951; decide), _, _, rfl, rfl, .inr ⟨by decide, by decide⟩, .int k, rfl, 7907, k, rfl, rfl, .inl ⟨by decide, by decide⟩, .int k, rfl, _, _, rfl, rfl, .inr ⟨by omega, by omega⟩,
        _, _, rfl, rfl, _, 41, rfl, rfl, _, _, rfl, rfl, (by show (0 : Int) < 2305843009213693921; decide), (show 3 ≤ sizeLine from by decide), fun p hp => ?_⟩
      have m5 := mod_pos (a := c % 2305843009213693951 * 69691 + 7907 * (k : Int) * (k : Int) + 41) (show (0 : Int) < 2305843009213693921 by decide)
      exact q p _ hp ⟨_, _, 0, rfl, m3.1, m3.2, m5.1, by omega, by decide, by decide⟩
theorem ok_take {f : Addr} {fd : FuncData} {k : Nat} (F : Fun K "_law_take" "_law_take" sTake f fd) : FnOk P w K mg base CX0 (k + 1) f fd ["pot", "bound"] spTake := by
  refine F.ok scTake (fun vs H Q E h => ?_) (fun cdv A outer s H vs Q E hr h => ?_)
  · obtain ⟨p, b, c, rfl, _⟩ := h
    rfl
  · obtain ⟨p, b, c, rfl, ⟨o, ep, own, mix, cnt, rfl, h1, h2, h3, h4, h5, h6⟩, hc, b1, b2, q⟩ := h
    refine ⟨_, pss_cons (ps_if (pt_cmpR op_gt (pe_ix ix_list (pv 0) pe_int (fun _ _ => rfl)) pe_int (nomark _))
        (pss_cons (ps_set (i := 2) scTake.nd rfl (.inl rfl) (pe_op op_mod (pe_ix ix_list (pv 0) pe_int (fun _ _ => rfl)) (pv 1)))
          (pss_cons (ps_asg (pe_op op_fdivW (pe_ix ix_list (pv 0) pe_int (fun _ _ => rfl)) (pv 1)) (pg_sub (pv 0) pe_int set_list)) (pss_one (ps_ret (pv 2))))) pss_nil)
      (pss_cons (ps_asg (pe_op op_add (pe_ix ix_list (pv 0) pe_int (fun _ _ => rfl)) pe_int) (pg_sub (pv 0) pe_int set_list))
      (pss_cons (ps_set (i := 3) scTake.nd rfl (.inl rfl) (pe_ix ix_list (pe_lst (pa_cons pe_int (pa_cons pe_int (pa_cons pe_int (pa_cons pe_int (pa_cons pe_int pa_nil)))))) (pe_op op_mod (pe_ix ix_list (pv 0) pe_int (fun _ _ => rfl)) pe_int) (fun _ _ => rfl)))
      (pss_cons (ps_set (i := 4) scTake.nd rfl (.inl rfl) (pe_op op_mod (pe_op op_pow (pe_op op_add (pe_op op_add (pe_ix ix_list (pv 0) pe_int (fun _ _ => rfl))
          (pe_op op_mul (pe_op op_mul pe_int (pe_ix ix_list (pv 0) pe_int (fun _ _ => rfl))) (pe_ix ix_list (pv 0) pe_int (fun _ _ => rfl)))) pe_int) pe_int) (pv 3)))
      (pss_one (ps_ret (pe_op op_mod (pe_op op_fdiv (pe_op op_mod (pe_op op_mul (pv 4) (pe_op op_add (pe_op op_mod (pv 4) pe_int) (pe_op op_mul pe_int (pe_ix ix_list (pv 0) pe_int (fun _ _ => rfl))))) pe_int) pe_int) (pv 1))))))), ?_⟩
    have hS : SqL K H p [.int own, .int mix, .int cnt] := .inl (.inl ep)
    refine ⟨.ref p, rfl, p, _, 0, .int own, rfl, rfl, hS, rfl, own, 0, rfl, rfl, _, rfl, ite2 (fun e => ?_) (fun e => ?_)⟩
    · have hpos : 0 < own := of_decide_eq_true e
      refine ⟨.ref p, rfl, p, _, 0, .int own, rfl, rfl, hS, rfl, .int b, rfl, own, b, rfl, rfl, b1, ?_⟩
      refine ⟨.ref p, rfl, p, _, 0, .int own, rfl, rfl, hS, rfl, .int b, rfl, own, b, rfl, rfl, ⟨b1, ?_⟩, .ref p, rfl, p, _, 0, 0, rfl, rfl, ep, rfl, ?_⟩
      · exact (wide_div (i := own) b1 (natAbs_lt (Int.le_of_lt b1) b2) (by decide) (by decide)).2
      · have dv := div_small h1 b1
        exact ⟨.int (own % b), rfl, q _ _ (mod_pos b1).1 (mod_pos b1).2 .set (.put ⟨own / b, mix, cnt, rfl, dv.1, Int.lt_of_le_of_lt dv.2 h2, h3, h4, h5, by omega⟩)⟩
    · refine ⟨.ref p, rfl, p, _, 2, .int cnt, rfl, rfl, hS, rfl, cnt, 1, rfl, rfl, .ref p, rfl, p, _, 2, 2, rfl, rfl, ep, rfl, ?_⟩
      refine ⟨(show 5 ≤ sizeLine from by decide), fun l hl => ?_⟩
      have np : p ≠ l := fun z => by
        rw [z, upd_same] at hl
        cases hl
      have hS1 : SqL K (upd (upd H p (.lst [.int own, .int mix, .int (cnt + 1)])) l (.lst [.int 2147483647, .int 2147483629, .int 2147483587, .int 2147483579, .int 2147483563])) p [.int own, .int mix, .int (cnt + 1)] :=
        .inl (.inl (by rw [upd_ne np, upd_same]))
      obtain ⟨pr, e1, e2, e3⟩ := prime_at (n := cnt + 1) (by omega)
      have bs := base_small h3 h4 (c := cnt + 1) (by omega) (by omega)
      refine ⟨.ref p, rfl, p, _, 2, .int (cnt + 1), rfl, rfl, hS1, rfl, cnt + 1, 5, rfl, rfl, (show (0 : Int) < 5 by decide), l, _, _, .int pr, rfl, rfl, .inl (.inl upd_same), e1, ?_⟩
      refine ⟨.ref p, rfl, p, _, 1, .int mix, rfl, rfl, hS1, rfl, .ref p, rfl, p, _, 2, .int (cnt + 1), rfl, rfl, hS1, rfl, 99991, cnt + 1, rfl, rfl, .inl ⟨by decide, by decide⟩,
        .ref p, rfl, p, _, 2, .int (cnt + 1), rfl, rfl, hS1, rfl, _, cnt + 1, rfl, rfl, .inr ⟨by omega, by omega⟩, mix, _, rfl, rfl, _, 29, rfl, rfl, _, 3, rfl, rfl, ⟨by decide, by decide, natAbs_lt bs.1 bs.2⟩, .int pr, rfl, _, pr, rfl, rfl, e2, ?_⟩
      have mx := mod_pos (a := (mix + 99991 * (cnt + 1) * (cnt + 1) + 29) ^ (3 : Int).toNat) e2
      have mx1 : -(2 ^ 64) < (mix + 99991 * (cnt + 1) * (cnt + 1) + 29) ^ (3 : Int).toNat % pr := Int.lt_of_lt_of_le (by decide) mx.1
      have mx2 : (mix + 99991 * (cnt + 1) * (cnt + 1) + 29) ^ (3 : Int).toNat % pr < 2 ^ 64 := Int.lt_trans mx.2 (Int.lt_trans e3 (by decide))
      refine ⟨_, rfl, _, rfl, _, 10007, rfl, rfl, (show (0 : Int) < 10007 by decide), .ref p, rfl, p, _, 2, .int (cnt + 1), rfl, rfl, hS1, rfl, 71, cnt + 1, rfl, rfl, .inl ⟨by decide, by decide⟩, _, _, rfl, rfl,
        _, _, rfl, rfl, .inl ⟨mx1, mx2⟩, _, _, rfl, rfl, (show (0 : Int) < 2305843009213693907 by decide), _, 103, rfl, rfl, ⟨by decide, by decide⟩, .int b, rfl, _, b, rfl, rfl, b1, ?_⟩
      exact q _ _ (mod_pos b1).1 (mod_pos b1).2 (But.trans .set (.new hl)) ⟨_, by rw [upd_ne np, upd_same]; rfl, own, mix, cnt + 1, rfl, h1, h2, h3, h4, by omega, by omega⟩
theorem scOf : FnScope ["pot", "some"] ["pot", "some"] (defScope sOf) := ⟨rfl, rfl, rfl, by decide +kernel, rfl, by decide +kernel, by decide +kernel⟩
theorem ok_of {f g : Addr} {fd gd : FuncData} {k : Nat} (F : Fun K "_law_of" "_law_of" sOf f fd) (T : Fun K "_law_take" "_law_take" sTake g gd) (gT : mg "_law_take" = some (.ref g)) (bT : Binds K gd ["pot", "bound"] [])
    (ml : mg "len" = none) : FnOk P w K mg base CX0 (k + 2) f fd ["pot", "some"] spOf := by
  have GT : FnOk P w K mg base CX0 (k + 1) g gd ["pot", "bound"] spTake := ok_take T
  refine F.ok scOf (fun vs H Q E h => ?_) (fun cdv A outer s H vs Q E hr h => ?_)
  · obtain ⟨p, a, xs, c, rfl, _⟩ := h
    rfl
  · obtain ⟨p, a, xs, c, rfl, hp, hc, ne, ha, h0, hl, q⟩ := h
    refine ⟨_, pss_one (ps_ret (pe_ix ix_list (pv 1) (pe_call GT hr (by rfl) gT T.kp bT .nil pass0 (pa_cons (pv 0) (pa_cons (pe_callB call_len_seq (by rfl) ml PySem.boot_len (pa_cons (pv 1) pa_nil)) pa_nil))) (fun _ _ => rfl))), ?_⟩
    have hS : SqL K H a xs := .inl (.inl ha)
    have hx : 0 < xs.length := List.length_pos_iff.mpr h0
    refine ⟨.ref a, rfl, .ref p, rfl, .ref a, rfl, a, xs, rfl, .inl hS, p, xs.length, c, rfl, hp, hc, by omega, small_pow hl, fun d H' d0 d1 bt pt => ?_⟩
    obtain ⟨j, rfl⟩ := Int.eq_ofNat_of_zero_le d0
    have hj : j < xs.length := by omega
    have g : xs[j]? = some xs[j] := List.getElem?_eq_getElem hj
    exact ⟨a, xs, j, xs[j], rfl, rfl, bt.sql ne hS, atI_nat g, q j _ H' g bt pt⟩
end
/-! ### the program's nodes -/
section
variable {P : Program} {w : World} {K : PySem.W.Frag} {mg : Str → Option Value} {base : Heap}
def spIsRun (K : PySem.W.Frag) : Sp := fun vs H Q _ => ∃ v n, vs = [v] ∧ NdV K H v n ∧ ∀ H', Same H H' → Q (.bl n.isRun) H'
def spIsBlk (K : PySem.W.Frag) : Sp := fun vs H Q _ => ∃ v n, vs = [v] ∧ NdV K H v n ∧ ∀ H', Same H H' → Q (.bl n.isBlk) H'
theorem scIsRun : FnScope ["value"] ["value"] (defScope sIsRun) := ⟨rfl, rfl, rfl, by decide +kernel, rfl, by decide +kernel, by decide +kernel⟩
theorem scIsBlk : FnScope ["value"] ["value"] (defScope sIsBlk) := ⟨rfl, rfl, rfl, by decide +kernel, rfl, by decide +kernel, by decide +kernel⟩
theorem shaped_one (s : Str) (h : PyData.canLay0 (.str s) = true) : SeqAt.shaped (.tuple [.str s]) = true := by
  unfold SeqAt.shaped
  rw [Bool.and_eq_true]
  exact ⟨by simp only [PyData.canLay0, PyData.canLayAll0] at h ⊢; rw [h]; rfl, decide_eq_true (by simp [PyData.depth, PyData.depthAll])⟩
theorem eqv_one (s t : Str) : PyData.eqv (.tuple [.str s]) (.tuple [.str t]) = (s == t) := by simp [PyData.eqv, PyData.eqvAll]
theorem ok_isrun {f : Addr} {fd : FuncData} {k : Nat} (F : Fun K "is_run" "is_run" sIsRun f fd) (mi : mg "isinstance" = none) (mt : mg "tuple" = none) : FnOk P w K mg base CX0 (k + 1) f fd ["value"] (spIsRun K) := by
  refine F.ok scIsRun (fun vs H Q E h => ?_) (fun cdv A outer s H vs Q E hr h => ?_)
  · obtain ⟨v, n, rfl, _⟩ := h
    rfl
  · obtain ⟨v, n, rfl, hn, q⟩ := h
    refine ⟨_, pss_one (ps_ret (pe_and (pe_callB call_isi (by rfl) mi PyProof.Rows.boot_isinstance (pa_cons (pv 0) (pa_cons (pe_bltn (v := .ty "tuple") (by rfl) mt PyProof.Rows.boot_tuple rfl) pa_nil)))
      (pe_one (pe_cmpR (op_eqD hr.units) (pe_slice sl_tupA (pv 0) po_none (po_some pe_int)) (pe_tup (pa_cons pe_str pa_nil)) (nomark _))))), ?_⟩
    cases n with
    | el n =>
      have ev := hn.el
      subst ev
      exact ⟨_, rfl, _, _, _, _, false, rfl, .ty "tuple", .base (.int _), kit_ty (by decide +kernel), _, rfl, q H (Same.refl H)⟩
    | run b c =>
      obtain ⟨a, v2, rfl, h1, h2⟩ := hn.run
      refine ⟨_, rfl, _, _, _, _, true, rfl, .ty "tuple", Loc.SqT.ty h1, kit_ty (by decide +kernel), _, rfl, ?_⟩
      refine ⟨.ref a, rfl, 1, rfl, a, _, rfl, h1, fun hw => absurd hw.2 (show ¬ HT.sIx 3 3 (some 1) = 3 by decide), fun hw p1 n1 => ⟨(show 1 ≤ sizeLine from by decide), fun p2 n2 => ?_⟩⟩
      refine ⟨.tuple [.str "run"], .tuple [.str "run"], .tup (.inl (.inl (sameN n2 _ _ upd_same))) (.cons (.str _) .nil), .tup (.inl (.inl upd_same)) (.cons (.str _) .nil), shaped_one _ str_run_ok.1, shaped_one _ str_run_ok.1, ?_⟩
      rw [eqv_one, beq_self_eq_true]
      exact q _ ((sameN n1).trans (sameN n2))
    | blk ps =>
      obtain ⟨a, b, vs, rfl, h1, h2, h3⟩ := hn.blk
      refine ⟨_, rfl, _, _, _, _, true, rfl, .ty "tuple", Loc.SqT.ty h1, kit_ty (by decide +kernel), _, rfl, ?_⟩
      refine ⟨.ref a, rfl, 1, rfl, a, _, rfl, h1, fun hw => absurd hw.2 (show ¬ HT.sIx 2 2 (some 1) = 2 by decide), fun hw p1 n1 => ⟨(show 1 ≤ sizeLine from by decide), fun p2 n2 => ?_⟩⟩
      refine ⟨.tuple [.str "block"], .tuple [.str "run"], .tup (.inl (.inl (sameN n2 _ _ upd_same))) (.cons (.str _) .nil), .tup (.inl (.inl upd_same)) (.cons (.str _) .nil), shaped_one _ str_run_ok.2, shaped_one _ str_run_ok.1, ?_⟩
      rw [eqv_one, unlike_sorts.2]
      exact q _ ((sameN n1).trans (sameN n2))
theorem ok_isblk {f : Addr} {fd : FuncData} {k : Nat} (F : Fun K "is_block" "is_block" sIsBlk f fd) (mi : mg "isinstance" = none) (mt : mg "tuple" = none) : FnOk P w K mg base CX0 (k + 1) f fd ["value"] (spIsBlk K) := by
  refine F.ok scIsBlk (fun vs H Q E h => ?_) (fun cdv A outer s H vs Q E hr h => ?_)
  · obtain ⟨v, n, rfl, _⟩ := h
    rfl
  · obtain ⟨v, n, rfl, hn, q⟩ := h
    refine ⟨_, pss_one (ps_ret (pe_and (pe_callB call_isi (by rfl) mi PyProof.Rows.boot_isinstance (pa_cons (pv 0) (pa_cons (pe_bltn (v := .ty "tuple") (by rfl) mt PyProof.Rows.boot_tuple rfl) pa_nil)))
      (pe_one (pe_cmpR (op_eqD hr.units) (pe_slice sl_tupA (pv 0) po_none (po_some pe_int)) (pe_tup (pa_cons pe_str pa_nil)) (nomark _))))), ?_⟩
    cases n with
    | el n =>
      have ev := hn.el
      subst ev
      exact ⟨_, rfl, _, _, _, _, false, rfl, .ty "tuple", .base (.int _), kit_ty (by decide +kernel), _, rfl, q H (Same.refl H)⟩
    | run b c =>
      obtain ⟨a, v2, rfl, h1, h2⟩ := hn.run
      refine ⟨_, rfl, _, _, _, _, true, rfl, .ty "tuple", Loc.SqT.ty h1, kit_ty (by decide +kernel), _, rfl, ?_⟩
      refine ⟨.ref a, rfl, 1, rfl, a, _, rfl, h1, fun hw => absurd hw.2 (show ¬ HT.sIx 3 3 (some 1) = 3 by decide), fun hw p1 n1 => ⟨(show 1 ≤ sizeLine from by decide), fun p2 n2 => ?_⟩⟩
      refine ⟨.tuple [.str "run"], .tuple [.str "block"], .tup (.inl (.inl (sameN n2 _ _ upd_same))) (.cons (.str _) .nil), .tup (.inl (.inl upd_same)) (.cons (.str _) .nil), shaped_one _ str_run_ok.1, shaped_one _ str_run_ok.2, ?_⟩
      rw [eqv_one, unlike_sorts.1]
      exact q _ ((sameN n1).trans (sameN n2))
    | blk ps =>
      obtain ⟨a, b, vs, rfl, h1, h2, h3⟩ := hn.blk
      refine ⟨_, rfl, _, _, _, _, true, rfl, .ty "tuple", Loc.SqT.ty h1, kit_ty (by decide +kernel), _, rfl, ?_⟩
      refine ⟨.ref a, rfl, 1, rfl, a, _, rfl, h1, fun hw => absurd hw.2 (show ¬ HT.sIx 2 2 (some 1) = 2 by decide), fun hw p1 n1 => ⟨(show 1 ≤ sizeLine from by decide), fun p2 n2 => ?_⟩⟩
      refine ⟨.tuple [.str "block"], .tuple [.str "block"], .tup (.inl (.inl (sameN n2 _ _ upd_same))) (.cons (.str _) .nil), .tup (.inl (.inl upd_same)) (.cons (.str _) .nil), shaped_one _ str_run_ok.2, shaped_one _ str_run_ok.2, ?_⟩
      rw [eqv_one, beq_self_eq_true]
      exact q _ ((sameN n1).trans (sameN n2))
end
section
variable {P : Program} {w : World} {K : PySem.W.Frag} {mg : Str → Option Value} {base : Heap}
theorem scBase : FnScope ["node"] ["node"] (defScope sBase) := ⟨rfl, rfl, rfl, by decide +kernel, rfl, by decide +kernel, by decide +kernel⟩
theorem scLevel : FnScope ["node", "level", "below"] ["node"] (defScope sLevel) := ⟨rfl, rfl, rfl, by decide +kernel, rfl, by decide +kernel, by decide +kernel⟩
def spBase (K : PySem.W.Frag) : Sp := fun vs H Q _ => ∃ v n, vs = [v] ∧ NdV K H v n ∧ ∀ H' v', Same H H' → NdV K H' v' n.base → Q v' H'
def spLevel (K : PySem.W.Frag) : Sp := fun vs H Q _ => ∃ v n l, vs = [v] ∧ NdV K H v n ∧ Ok n l ∧ ∀ H', Same H H' → Q (.int l) H'
theorem ok_base {f g : Addr} {fd gd : FuncData} {k : Nat} (F : Fun K "base_of" "base_of" sBase f fd) (R : Fun K "is_run" "is_run" sIsRun g gd) (gR : mg "is_run" = some (.ref g)) (bR : Binds K gd ["value"] []) (mi : mg "isinstance" = none) (mt : mg "tuple" = none) :
    FnOk P w K mg base CX0 (k + 2) f fd ["node"] (spBase K) := by
  have GR : FnOk P w K mg base CX0 (k + 1) g gd ["value"] (spIsRun K) := ok_isrun R mi mt
  refine F.ok scBase (fun vs H Q E h => ?_) (fun cdv A outer s H vs Q E hr h => ?_)
  · obtain ⟨v, n, rfl, _⟩ := h
    rfl
  · obtain ⟨v, n, rfl, hn, q⟩ := h
    refine ⟨_, pss_cons (ps_if (pt_val (pe_call GR hr (by rfl) gR R.kp bR .nil pass0 (pa_cons (pv 0) pa_nil))) (pss_one (ps_ret (pe_ix ix_tup (pv 0) pe_int (fun _ _ => rfl)))) pss_nil) (pss_one (ps_ret (pv 0))), ?_⟩
    refine ⟨v, rfl, v, n, rfl, hn, fun H1 s1 => ?_⟩
    have hn1 := hn.up (.of s1)
    cases n with
    | run b c =>
      obtain ⟨a, v2, rfl, h1, h2⟩ := hn1.run
      exact ⟨_, rfl, iteT ⟨.ref a, rfl, a, _, 1, v2, rfl, rfl, h1, rfl, q _ _ s1 h2⟩⟩
    | el n => exact ⟨_, rfl, iteF ⟨v, rfl, q _ _ s1 hn1⟩⟩
    | blk ps => exact ⟨_, rfl, iteF ⟨v, rfl, q _ _ s1 hn1⟩⟩
theorem ok_level {f g b c : Addr} {fd gd bd cd : FuncData} {k : Nat} (F : Fun K "level_of" "level_of" sLevel f fd) (C : Fun K "base_of" "base_of" sBase c cd) (gC : mg "base_of" = some (.ref c)) (bC : Binds K cd ["node"] [])
    (R : Fun K "is_run" "is_run" sIsRun g gd) (gR : mg "is_run" = some (.ref g)) (bR : Binds K gd ["value"] []) (B : Fun K "is_block" "is_block" sIsBlk b bd) (gB : mg "is_block" = some (.ref b)) (bB : Binds K bd ["value"] []) (mi : mg "isinstance" = none) (mt : mg "tuple" = none) :
    FnOk P w K mg base CX0 (k + 3) f fd ["node"] (spLevel K) := by
  have GC : FnOk P w K mg base CX0 (k + 2) c cd ["node"] (spBase K) := ok_base C R gR bR mi mt
  have GB : FnOk P w K mg base CX0 (k + 2) b bd ["value"] (spIsBlk K) := ok_isblk B mi mt
  refine F.ok scLevel (fun vs H Q E h => ?_) (fun cdv A outer s H vs Q E hr h => ?_)
  · obtain ⟨v, n, l, rfl, _⟩ := h
    rfl
  · obtain ⟨v, n, l, rfl, hn, ok, q⟩ := h
    refine ⟨_, pss_cons (ps_set (i := 1) scLevel.nd rfl (.inl rfl) pe_int)
      (pss_cons (ps_set (i := 2) scLevel.nd rfl (.inl rfl) (pe_call GC hr (by rfl) gC C.kp bC .nil pass0 (pa_cons (pv 0) pa_nil)))
      (pss_cons (ps_while PassesOwn.never (pt_val (pe_call GB hr (by rfl) gB B.kp bB .nil pass0 (pa_cons (pv 2) pa_nil)))
        (pss_cons (ps_aug (i := 1) scLevel.nd rfl (.inl rfl) pe_int ip_add)
        (pss_one (ps_set (i := 2) scLevel.nd rfl (.inl rfl) (pe_call GC hr (by rfl) gC C.kp bC .nil pass0 (pa_cons (pe_ix ix_tup (pe_ix ix_tup (pv 2) pe_int (fun _ _ => rfl)) pe_int (fun _ _ => rfl)) pa_nil))))))
      (pss_one (ps_ret (pv 1))))), ?_⟩
    refine ⟨v, rfl, v, n, rfl, hn, fun H1 v1 s1 h1 => ?_⟩
    obtain ⟨okb, nrb⟩ := ok.base
    refine ⟨fun m σ H' => ∃ (i : Nat) (u : V) (x : Nd), i + m = l ∧ σ = [some v, some (.int i), some u] ∧ NdV K H' u x ∧ Ok x m ∧ x.isRun = false ∧ Same H H', ⟨l, 0, v1, n.base, Nat.zero_add _, rfl, h1, okb, nrb, s1⟩, ?_⟩
    rintro m σ H2 ⟨i, u, x, im, rfl, k1, k2, k3, s2⟩
    refine ⟨u, rfl, u, x, rfl, k1, fun H3 s3 => ⟨_, rfl, ?_⟩⟩
    have k1' := k1.up (.of s3)
    cases x with
    | run b c => cases k3
    | el e =>
      unfold Ok at k2
      refine iteF ⟨_, rfl, ?_⟩
      have : i = l := by omega
      rw [this]
      exact q _ (s2.trans s3)
    | blk ps =>
      unfold Ok at k2
      obtain ⟨m1, m2, m3, m4, _⟩ := k2
      obtain ⟨a, bb, vs, rfl, t1, t2, t3⟩ := k1'.blk
      obtain ⟨y, hy⟩ := get_of (l := ps) (i := 0) (by omega)
      obtain ⟨z, hz, kz⟩ := t3.at hy
      have oky := m4.mem y (List.mem_of_getElem? hy)
      refine iteT ⟨fun σ' H' => ∃ (u : V) (x : Nd), σ' = [some v, some (.int ((i + 1 : Nat) : Int)), some u] ∧ NdV K H' u x ∧ Ok x (m - 1) ∧ x.isRun = false ∧ Same H H', fun σ' H' hN => ?_, ?_⟩
      · obtain ⟨u', x', j1, j2⟩ := hN
        exact ⟨m - 1, by omega, i + 1, u', x', by omega, j1, j2⟩
      · refine ⟨_, rfl, i, 1, rfl, rfl, .ref a, rfl, a, _, 1, .ref bb, rfl, rfl, t1, rfl, bb, _, 0, z, rfl, rfl, t2, atI_nat (j := 0) hz, z, y, rfl, kz, fun H4 v4 s4 h4 => ⟨v4, y.base, ?_, h4, oky.base.1, oky.base.2, s2.trans (s3.trans s4)⟩⟩
        rw [Int.natCast_add]
        rfl
end
/-! ### the law's drawn nodes -/
section
variable {P : Program} {w : World} {K : PySem.W.Frag} {mg : Str → Option Value} {base : Heap}
theorem scGround : FnScope ["node"] ["node"] (defScope sGround) := ⟨rfl, rfl, rfl, by decide +kernel, rfl, by decide +kernel, by decide +kernel⟩
theorem ok_ground {f : Addr} {fd : FuncData} {k : Nat} (F : Fun K "_law_ground" "_law_ground" sGround f fd) (mi : mg "isinstance" = none) (mt : mg "tuple" = none) : FnOk P w K mg base CX0 (k + 1) f fd ["node"] (spGround K) := by
  refine F.ok scGround (fun vs H Q E h => ?_) (fun cdv A outer s H vs Q E hr h => ?_)
  · obtain ⟨v, n, rfl, _⟩ := h
    rfl
  · obtain ⟨v, n, rfl, hn, q⟩ := h
    refine ⟨_, pss_one (ps_ret (pe_ifExp (PW.pt (pw_and (pt_val (pe_callB call_isi (by rfl) mi PyProof.Rows.boot_isinstance (pa_cons (pv 0) (pa_cons (pe_bltn (v := .ty "tuple") (by rfl) mt PyProof.Rows.boot_tuple rfl) pa_nil))))
      (pw_and1 (pt_cmpR op_eq (pe_ix ix_tup (pv 0) pe_int (fun _ _ => rfl)) pe_str (nomark _))))) (pe_ix ix_tup (pv 0) pe_int (fun _ _ => rfl)) (pv 0))), ?_⟩
    cases n with
    | el n =>
      have ev := hn.el
      subst ev
      refine ⟨_, rfl, _, _, _, _, false, rfl, .ty "tuple", .base (.int _), kit_ty (by decide +kernel), _, rfl, ?_⟩
      exact ⟨_, rfl, q _ hn⟩
    | run b c =>
      obtain ⟨a, v2, rfl, h1, h2⟩ := hn.run
      refine ⟨_, rfl, _, _, _, _, true, rfl, .ty "tuple", Loc.SqT.ty h1, kit_ty (by decide +kernel), _, rfl, ?_⟩
      refine ⟨.ref a, rfl, a, _, 0, .str "run", rfl, rfl, h1, rfl, rfl, _, rfl, ?_⟩
      rw [decide_eq_true rfl]
      exact ⟨.ref a, rfl, a, _, 1, v2, rfl, rfl, h1, rfl, q _ h2⟩
    | blk ps =>
      obtain ⟨a, b, vs, rfl, h1, h2, h3⟩ := hn.blk
      refine ⟨_, rfl, _, _, _, _, true, rfl, .ty "tuple", Loc.SqT.ty h1, kit_ty (by decide +kernel), _, rfl, ?_⟩
      refine ⟨.ref a, rfl, a, _, 0, .str "block", rfl, rfl, h1, rfl, rfl, _, rfl, ?_⟩
      rw [decide_eq_false (show ¬ (V.str "block" = V.str "run") by decide +kernel)]
      exact ⟨.ref a, rfl, q _ hn⟩
theorem scLeaf : FnScope ["pot", "one"] ["pot"] (defScope sLeaf) := ⟨rfl, rfl, rfl, by decide +kernel, rfl, by decide +kernel, by decide +kernel⟩
theorem ok_leaf {f g o : Addr} {fd gd od : FuncData} {k : Nat} (F : Fun K "_law_leaf" "_law_leaf" sLeaf f fd) (T : Fun K "_law_take" "_law_take" sTake g gd) (gT : mg "_law_take" = some (.ref g)) (bT : Binds K gd ["pot", "bound"] [])
    (O : Fun K "_law_of" "_law_of" sOf o od) (gO : mg "_law_of" = some (.ref o)) (bO : Binds K od ["pot", "some"] []) (ml : mg "len" = none) : FnOk P w K mg base CX0 (k + 3) f fd ["pot"] (spLeaf K) := by
  have GT : FnOk P w K mg base CX0 (k + 1) g gd ["pot", "bound"] spTake := ok_take T
  have GO : FnOk P w K mg base CX0 (k + 2) o od ["pot", "some"] spOf := ok_of O T gT bT ml
  refine F.ok scLeaf (fun vs H Q E h => ?_) (fun cdv A outer s H vs Q E hr h => ?_)
  · obtain ⟨p, c, rfl, _⟩ := h
    rfl
  · obtain ⟨p, c, rfl, hp, hc, q⟩ := h
    have h1 := hr.mono (j := k + 1) (by omega)
    refine ⟨_, pss_cons (ps_set (i := 1) scLeaf.nd rfl (.inl rfl) (pe_call GO hr (by rfl) gO O.kp bO .nil pass0 (pa_cons (pv 0) (pa_cons (pe_lst (pa_cons pe_int (pa_cons pe_int (pa_cons pe_int (pa_cons pe_int (pa_cons pe_int (pa_cons pe_int (pa_cons pe_int
        (pa_cons (pe_op op_pow pe_int pe_int) (pa_cons (pe_call GT h1 (by rfl) gT T.kp bT .nil pass0 (pa_cons (pv 0) (pa_cons (pe_op op_add (pe_op op_pow pe_int pe_int) pe_int) pa_nil))) pa_nil)))))))))) pa_nil))))
      (pss_cons (ps_if (pt_cmpR op_gt (pe_call GT h1 (by rfl) gT T.kp bT .nil pass0 (pa_cons (pv 0) (pa_cons pe_int pa_nil))) pe_int (nomark _)) (pss_one (ps_ret (pv 1))) pss_nil)
      (pss_one (ps_ret (pe_tup (pa_cons pe_str (pa_cons (pv 1) (pa_cons (pe_op op_add pe_int (pe_call GO hr (by rfl) gO O.kp bO .nil pass0 (pa_cons (pv 0) (pa_cons (pe_lst (pa_cons pe_int (pa_cons pe_int (pa_cons pe_int (pa_cons pe_int
        (pa_cons (pe_op op_pow pe_int pe_int) (pa_cons (pe_call GT h1 (by rfl) gT T.kp bT .nil pass0 (pa_cons (pv 0) (pa_cons (pe_op op_pow pe_int pe_int) pa_nil))) pa_nil))))))) pa_nil)))) pa_nil))))))), ?_⟩
    refine ⟨.ref p, rfl, 10, 9, rfl, rfl, ⟨by decide, by decide, by decide⟩, .ref p, rfl, 10, 9, rfl, rfl, ⟨by decide, by decide, by decide⟩, _, 1, rfl, rfl, p, _, c, rfl, hp, by omega, (show (0 : Int) < 10 ^ (9 : Int).toNat + 1 by decide), (show (10 : Int) ^ (9 : Int).toNat + 1 < 2 ^ 1000 by decide +kernel),
      fun d H1 d0 d1 b1 p1 => ⟨(show 9 ≤ sizeLine from by decide), fun l hl => ?_⟩⟩
    have d1' : d < 1000000001 := d1
    refine ⟨p, l, _, _, rfl, p1.new hl, by omega, p1.ne hl, upd_same, List.cons_ne_nil _ _, (show 9 ≤ 1000 from by decide), fun j x H2 hj b2 p2 => ?_⟩
    have sm : Smalls (10 ^ 9) [V.int 0, .int 1, .int 2, .int 7, .int 12, .int 120, .int 9, .int ((10 : Int) ^ (9 : Int).toNat), .int d] :=
      .cons (n := 0) rfl (by decide) (.cons (n := 1) rfl (by decide) (.cons (n := 2) rfl (by decide) (.cons (n := 7) rfl (by decide) (.cons (n := 12) rfl (by decide) (.cons (n := 120) rfl (by decide) (.cons (n := 9) rfl (by decide)
        (.cons (n := 10 ^ 9) rfl (by decide) (.cons (n := d.toNat) (int_congr (by omega)) (by omega) .nil))))))))
    obtain ⟨n, rfl, hn⟩ := sm.at hj
    have b12 : But p H H2 := (b1.trans (.new hl)).trans b2
    refine ⟨.ref p, rfl, p, 3, _, rfl, p2, by omega, by decide, by decide +kernel, fun d2 H3 _ _ b3 p3 => ⟨d2, 0, rfl, rfl, _, rfl, ite2 (fun _ => ?_) (fun _ => ?_)⟩⟩
    · exact ⟨_, rfl, q _ _ _ (b12.trans b3) (p3.le (by omega)) (.ofEl n) (by unfold Ok; exact ⟨rfl, hn⟩)⟩
    · refine ⟨_, rfl, .ref p, rfl, 10, 18, rfl, rfl, ⟨by decide, by decide, by decide⟩, .ref p, rfl, 10, 18, rfl, rfl, ⟨by decide, by decide, by decide⟩, p, _, _, rfl, p3, by omega, (show (0 : Int) < 10 ^ (18 : Int).toNat by decide), (show (10 : Int) ^ (18 : Int).toNat < 2 ^ 1000 by decide +kernel),
        fun d4 H4 d40 d41 b4 p4 => ⟨(show 6 ≤ sizeLine from by decide), fun l4 hl4 => ?_⟩⟩
      have d41' : d4 < 1000000000000000000 := d41
      refine ⟨p, l4, _, _, rfl, p4.new hl4, by omega, p4.ne hl4, upd_same, List.cons_ne_nil _ _, (show 6 ≤ 1000 from by decide), fun j2 x2 H5 hj2 b5 p5 => ?_⟩
      have sm2 : Smalls (10 ^ 18) [V.int 0, .int 1, .int 9, .int 98, .int ((10 : Int) ^ (18 : Int).toNat), .int d4] :=
        .cons (n := 0) rfl (by decide) (.cons (n := 1) rfl (by decide) (.cons (n := 9) rfl (by decide) (.cons (n := 98) rfl (by decide) (.cons (n := 10 ^ 18) rfl (by decide) (.cons (n := d4.toNat) (int_congr (by omega)) (by omega) .nil)))))
      obtain ⟨m, rfl, hm⟩ := sm2.at hj2
      refine ⟨2, _, rfl, rfl, (show 3 ≤ sizeLine from by decide), fun t ht => ?_⟩
      have em : V.int (2 + (m : Int)) = V.int ((2 + m : Nat) : Int) := int_congr (by omega)
      refine q _ (.run (.el n) (2 + m)) _ ((((b12.trans b3).trans b4).trans (.new hl4)).trans (b5.trans (.new ht))) ((p5.new ht).le (by omega)) (.ofRun (v2 := .int n) (.inl (.inl ?_)) (.ofEl n)) ?_
      · rw [upd_same]
        exact congrArg (fun z => some (HO.tup [V.str "run", V.int n, z])) em
      · unfold Ok
        refine ⟨by omega, Nat.le_trans (Nat.add_le_add_left hm 2) (by decide), rfl, ?_⟩
        unfold Ok
        exact ⟨rfl, hn⟩
theorem scTwins : FnScope ["level", "one", "other"] ["level"] (defScope sTwins) := ⟨rfl, rfl, rfl, by decide +kernel, rfl, by decide +kernel, by decide +kernel⟩
theorem ok_twins {f : Addr} {fd : FuncData} (F : Fun K "_law_twins" "_law_twins" sTwins f fd) (g : mg "_law_twins" = some (.ref f)) (b : Binds K fd ["level"] []) : ∀ m : Nat, FnOk P w K mg base CX0 (m + 1) f fd ["level"] (spTwins K m)
  | 0 => ⟨fun vs H Q E h => by obtain ⟨z, l, _, _, h, _⟩ := h; exact absurd h (Nat.not_lt_zero _), fun A outer s H args us vs Q E _ _ _ _ h => by obtain ⟨z, l, _, _, h, _⟩ := h; exact absurd h (Nat.not_lt_zero _)⟩
  | m + 1 => by
    have IH : FnOk P w K mg base CX0 (m + 1) f fd ["level"] (spTwins K m) := ok_twins F g b m
    refine F.ok scTwins (fun vs H Q E h => ?_) (fun cdv A outer s H vs Q E hr h => ?_)
    · obtain ⟨z, l, rfl, _⟩ := h
      rfl
    · obtain ⟨z, l, rfl, rfl, hl, q⟩ := h
      refine ⟨_, pss_cons (ps_if (pt_cmpR op_eq (pv 0) pe_int (nomark _)) (pss_one (ps_ret (pe_tup (pa_cons pe_int (pa_cons pe_int pa_nil))))) pss_nil)
        (pss_cons (ps_asg (pe_call IH hr (by rfl) g F.kp b .nil pass0 (pa_cons (pe_op op_sub (pv 0) pe_int) pa_nil)) (pg_tup rfl (pgs_cons (pg_name (i := 1) scTwins.nd rfl (.inl rfl)) (pgs_cons (pg_name (i := 2) scTwins.nd rfl (.inl rfl)) pgs_nil))))
        (pss_one (ps_ret (pe_tup (pa_cons (pe_tup (pa_cons pe_str (pa_cons (pe_tup (pa_cons (pv 1) (pa_cons (pv 2) pa_nil))) pa_nil))) (pa_cons (pe_tup (pa_cons pe_str (pa_cons (pe_tup (pa_cons (pv 2) (pa_cons (pv 1) pa_nil))) pa_nil))) pa_nil)))))), ?_⟩
      refine ⟨_, rfl, rfl, _, rfl, ite2 (fun e => ?_) (fun e => ?_)⟩
      · have e0 : (l : Int) = 0 := V.int.inj (of_decide_eq_true e)
        have e1 : l = 0 := by omega
        subst e1
        exact ⟨(show 2 ≤ sizeLine from by decide), fun p hp => q _ p _ _ (sameN hp) upd_same (.ofEl 5) (.ofEl 6)⟩
      · obtain ⟨j, rfl⟩ : ∃ j, l = j + 1 := ⟨l - 1, by
          have : l ≠ 0 := fun z => e (by rw [z]; rfl)
          omega⟩
        refine ⟨_, rfl, _, 1, rfl, rfl, _, j, rfl, by omega, by omega, fun H1 a v1 v2 s1 ha k1 k2 => ?_⟩
        refine ⟨a, [v1, v2], rfl, .inl (.inl ha), rfl, v1, [v2], rfl, v2, [], rfl, rfl, ?_⟩
        refine ⟨v1, rfl, v2, rfl, (show 2 ≤ sizeLine from by decide), fun p1 n1 => ⟨(show 2 ≤ sizeLine from by decide), fun p2 n2 => ⟨v2, rfl, v1, rfl, (show 2 ≤ sizeLine from by decide), fun p3 n3 => ⟨(show 2 ≤ sizeLine from by decide), fun p4 n4 => ⟨(show 2 ≤ sizeLine from by decide), fun p5 n5 => ?_⟩⟩⟩⟩⟩
        have g5 := sameN (o := .tup [.ref p2, .ref p4]) n5
        have g4 := (sameN (o := .tup [.str "block", .ref p3]) n4).trans g5
        have g3 := (sameN (o := .tup [v2, v1]) n3).trans g4
        have g2 := (sameN (o := .tup [.str "block", .ref p1]) n2).trans g3
        have g1 := (sameN (o := .tup [v1, v2]) n1).trans g2
        have t1 : Tups K H1 _ := .of g1
        refine q _ p5 (.ref p2) (.ref p4) (s1.trans g1) upd_same ?_ ?_
        · exact .ofBlk (.inl (.inl (g3 _ _ upd_same))) (.inl (.inl (g2 _ _ upd_same))) (.cons (k1.up t1) (.cons (k2.up t1) .nil))
        · exact .ofBlk (.inl (.inl (g5 _ _ upd_same))) (.inl (.inl (g4 _ _ upd_same))) (.cons (k2.up t1) (.cons (k1.up t1) .nil))
theorem scUnlike : FnScope ["node", "level", "one", "other"] ["node", "level"] (defScope sUnlike) := ⟨rfl, rfl, rfl, by decide +kernel, rfl, by decide +kernel, by decide +kernel⟩
theorem ok_unlike {f g t : Addr} {fd gd td : FuncData} {m : Nat} (F : Fun K "_law_unlike" "_law_unlike" sUnlike f fd) (W : Fun K "_law_twins" "_law_twins" sTwins t td) (gW : mg "_law_twins" = some (.ref t)) (bW : Binds K td ["level"] [])
    (G : Fun K "_law_ground" "_law_ground" sGround g gd) (gG : mg "_law_ground" = some (.ref g)) (bG : Binds K gd ["node"] []) (mi : mg "isinstance" = none) (mt : mg "tuple" = none) :
    FnOk P w K mg base CX0 (m + 2) f fd ["node", "level"] (spUnlike K m) := by
  have GW : FnOk P w K mg base CX0 (m + 1) t td ["level"] (spTwins K m) := ok_twins W gW bW m
  have GG : FnOk P w K mg base CX0 (m + 1) g gd ["node"] (spGround K) := ok_ground G mi mt
  refine F.ok scUnlike (fun vs H Q E h => ?_) (fun cdv A outer s H vs Q E hr h => ?_)
  · obtain ⟨v, n, l, rfl, _⟩ := h
    rfl
  · obtain ⟨v, n, l, rfl, hl, h20, hn, okn, q⟩ := h
    refine ⟨_, pss_cons (ps_asg (pe_call GW hr (by rfl) gW W.kp bW .nil pass0 (pa_cons (pv 1) pa_nil)) (pg_tup rfl (pgs_cons (pg_name (i := 2) scUnlike.nd rfl (.inl rfl)) (pgs_cons (pg_name (i := 3) scUnlike.nd rfl (.inl rfl)) pgs_nil))))
      (pss_one (ps_ret (pe_ifExp (pt_cmpR (op_neD hr.units) (pv 2) (pe_call GG hr (by rfl) gG G.kp bG .nil pass0 (pa_cons (pv 0) pa_nil)) (nomark _)) (pv 2) (pv 3)))), ?_⟩
    refine ⟨_, rfl, _, l, rfl, rfl, hl, fun H1 a v1 v2 s1 ha k1 k2 => ?_⟩
    refine ⟨a, [v1, v2], rfl, .inl (.inl ha), rfl, v1, [v2], rfl, v2, [], rfl, rfl, ?_⟩
    have hn1 : NdV K H1 v n := hn.up (.of s1)
    obtain ⟨o1, o2, o3, o4, o5⟩ := tw_ok l
    refine ⟨v1, rfl, v, rfl, v, n, rfl, hn1, fun v' hv' => ⟨_, _, k1, hv', shaped_dat o1 h20, shaped_dat okn.base.1 h20, _, rfl, ?_⟩⟩
    by_cases e : (tw l).1 = n.base
    · rw [eqv_yes e]
      refine ⟨v2, rfl, q _ _ _ s1 k2 o2 ?_⟩
      rw [base_of_no o5, ← e]
      exact o3.symm
    · rw [eqv_no e]
      refine ⟨v1, rfl, q _ _ _ s1 k1 o1 ?_⟩
      rw [base_of_no o4]
      exact e
end
section
variable {P : Program} {w : World} {K : PySem.W.Frag} {mg : Str → Option Value} {base : Heap}
theorem scRow : FnScope ["pot", "level", "many", "found", "node"] ["pot", "level", "many"] (defScope sRow) := ⟨rfl, rfl, rfl, by decide +kernel, rfl, by decide +kernel, by decide +kernel⟩
theorem scBlock : FnScope ["pot", "level", "parts", "node"] ["pot", "level"] (defScope sBlock) := ⟨rfl, rfl, rfl, by decide +kernel, rfl, by decide +kernel, by decide +kernel⟩
/-- what the names of the drawing defs hold -/
structure GenF (K : PySem.W.Frag) (mg : Str → Option Value) (fT fO fG fL fR fB fW fU : Addr) (dT dO dG dL dR dB dW dU : FuncData) : Prop where
  T : Fun K "_law_take" "_law_take" sTake fT dT
  O : Fun K "_law_of" "_law_of" sOf fO dO
  G : Fun K "_law_ground" "_law_ground" sGround fG dG
  L : Fun K "_law_leaf" "_law_leaf" sLeaf fL dL
  R : Fun K "_law_row" "_law_row" sRow fR dR
  B : Fun K "_law_block" "_law_block" sBlock fB dB
  W : Fun K "_law_twins" "_law_twins" sTwins fW dW
  U : Fun K "_law_unlike" "_law_unlike" sUnlike fU dU
  gT : mg "_law_take" = some (.ref fT)
  gO : mg "_law_of" = some (.ref fO)
  gG : mg "_law_ground" = some (.ref fG)
  gL : mg "_law_leaf" = some (.ref fL)
  gR : mg "_law_row" = some (.ref fR)
  gB : mg "_law_block" = some (.ref fB)
  gW : mg "_law_twins" = some (.ref fW)
  gU : mg "_law_unlike" = some (.ref fU)
  bT : Binds K dT ["pot", "bound"] []
  bO : Binds K dO ["pot", "some"] []
  bG : Binds K dG ["node"] []
  bL : Binds K dL ["pot"] []
  bR : Binds K dR ["pot", "level", "many"] []
  bB : Binds K dB ["pot", "level"] []
  bW : Binds K dW ["level"] []
  bU : Binds K dU ["node", "level"] []
  len : mg "len" = none
  tuple : mg "tuple" = none
  isinstance : mg "isinstance" = none
variable {fT fO fG fL fR fB fW fU : Addr} {dT dO dG dL dR dB dW dU : FuncData}
theorem ok_block (X : GenF K mg fT fO fG fL fR fB fW fU dT dO dG dL dR dB dW dU) {m k : Nat} (hk : 3 ≤ k) (GR : FnOk P w K mg base CX0 k fR dR ["pot", "level", "many"] (spRow K m)) : FnOk P w K mg base CX0 (k + 1) fB dB ["pot", "level"] (spBlock K (m + 1)) := by
  have GT : FnOk P w K mg base CX0 1 fT dT ["pot", "bound"] spTake := ok_take X.T
  have GO : FnOk P w K mg base CX0 2 fO dO ["pot", "some"] spOf := ok_of X.O X.T X.gT X.bT X.len
  refine X.B.ok scBlock (fun vs H Q E h => ?_) (fun cdv A outer s H vs Q E hr h => ?_)
  · obtain ⟨p, l, c, rfl, _⟩ := h
    rfl
  · obtain ⟨p, l, c, rfl, l1, l2, l3, hp, hc, q⟩ := h
    have h1 := hr.mono (j := 1) (by omega)
    have h2 := hr.mono (j := 2) (by omega)
    refine ⟨_, pss_cons (ps_set (i := 2) scBlock.nd rfl (.inl rfl) (pe_call GR hr (by rfl) X.gR X.R.kp X.bR .nil pass0 (pa_cons (pv 0) (pa_cons (pe_op op_sub (pv 1) pe_int)
          (pa_cons (pe_op op_add pe_int (pe_call GT h1 (by rfl) X.gT X.T.kp X.bT .nil pass0 (pa_cons (pv 0) (pa_cons pe_int pa_nil)))) pa_nil)))))
      (pss_cons (ps_set (i := 3) scBlock.nd rfl (.inl rfl) (pe_tup (pa_cons pe_str (pa_cons (pe_callTy call_tuple_of (by rfl) X.tuple PyProof.Rows.boot_tuple (pa_cons (pv 2) pa_nil)) pa_nil))))
      (pss_cons (ps_if (pt_cmpR op_gt (pe_call GT h1 (by rfl) X.gT X.T.kp X.bT .nil pass0 (pa_cons (pv 0) (pa_cons pe_int pa_nil))) pe_int (nomark _)) (pss_one (ps_ret (pv 3))) pss_nil)
      (pss_one (ps_ret (pe_tup (pa_cons pe_str (pa_cons (pv 3) (pa_cons (pe_op op_add pe_int (pe_call GO h2 (by rfl) X.gO X.O.kp X.bO .nil pass0 (pa_cons (pv 0) (pa_cons (pe_lst (pa_cons pe_int (pa_cons pe_int (pa_cons pe_int
        (pa_cons (pe_op op_pow pe_int pe_int) pa_nil))))) pa_nil)))) pa_nil)))))))), ?_⟩
    obtain ⟨j, rfl⟩ : ∃ j, l = j + 1 := ⟨l - 1, by omega⟩
    have cj : cost (j + 1) = 4 * cost j := rfl
    have cp := cost_pos j
    refine ⟨.ref p, rfl, _, rfl, _, 1, rfl, rfl, .ref p, rfl, p, 2, c, rfl, hp, by omega, by decide, by decide +kernel, fun d H1 d0 d1 b1 p1 => ⟨2, d, rfl, rfl, ?_⟩⟩
    have ev : V.int (2 + d) = V.int ((2 + d.toNat : Nat) : Int) := int_congr (by omega)
    refine ⟨p, _, j, 2 + d.toNat, _, congrArg (fun z => [V.ref p, V.int ((j + 1 : Nat) - 1 : Int), z]) ev, by omega, by omega, by omega, by omega, p1, by omega, fun H2 a vs' ns b2 na ha hn hok hu hl p2 => ?_⟩
    have mul : (2 + d.toNat) * cost j ≤ 3 * cost j := Nat.mul_le_mul_right _ (by omega)
    refine ⟨.ref a, rfl, a, _, rfl, .inl ⟨.inl (.inl ha), fun t1 n1 => ⟨(show 2 ≤ sizeLine from by decide), fun t2 n2 => ?_⟩⟩⟩
    have g2 := sameN (o := .tup [.str "block", .ref t1]) n2
    have g1 := (sameN (o := .tup vs') n1).trans g2
    have b12 := ((b1.trans b2).trans (But.new (o := .tup vs') n1)).trans (But.new (o := .tup [.str "block", .ref t1]) n2)
    have nb : NdV K (upd (upd H2 t1 (.tup vs')) t2 (.tup [.str "block", .ref t1])) (.ref t2) (.blk ns) := NdV.ofBlk (.inl (.inl upd_same)) (.inl (.inl (g2 _ _ upd_same))) (hn.up (.of g1))
    have okb : Ok (.blk ns) (j + 1) := by
      unfold Ok
      exact ⟨by omega, by omega, by omega, hok, hu⟩
    have p2' := (p2.new (o := .tup vs') n1).new (o := .tup [.str "block", .ref t1]) n2
    refine ⟨.ref p, rfl, p, 5, _, rfl, p2', by omega, by decide, by decide +kernel, fun d2 H3 _ _ b3 p3 => ⟨d2, 0, rfl, rfl, _, rfl, ite2 (fun _ => ?_) (fun _ => ?_)⟩⟩
    · exact ⟨_, rfl, q _ _ _ (b12.trans b3) (nb.up (b3.tupsP p2')) okb (p3.le (by omega))⟩
    · refine ⟨_, rfl, .ref p, rfl, 10, 18, rfl, rfl, ⟨by decide, by decide, by decide⟩, (show 4 ≤ sizeLine from by decide), fun l4 hl4 => ?_⟩
      refine ⟨p, l4, _, _, rfl, p3.new hl4, by omega, p3.ne hl4, upd_same, List.cons_ne_nil _ _, (show 4 ≤ 1000 from by decide), fun j2 x2 H5 hj2 b5 p5 => ?_⟩
      have sm2 : Smalls (10 ^ 18) [V.int 0, .int 1, .int 8, .int ((10 : Int) ^ (18 : Int).toNat)] :=
        .cons (n := 0) rfl (by decide) (.cons (n := 1) rfl (by decide) (.cons (n := 8) rfl (by decide) (.cons (n := 10 ^ 18) rfl (by decide) .nil)))
      obtain ⟨mm, rfl, hm⟩ := sm2.at hj2
      refine ⟨2, _, rfl, rfl, (show 3 ≤ sizeLine from by decide), fun t ht => ?_⟩
      have em : V.int (2 + (mm : Int)) = V.int ((2 + mm : Nat) : Int) := int_congr (by omega)
      have nb3 := nb.up (b3.tupsP p2')
      have nb5 := (nb3.up (.of (sameN hl4))).up (b5.tupsP (p3.new hl4))
      refine q _ _ (.run (.blk ns) (2 + mm)) (((b12.trans b3).trans (.new hl4)).trans (b5.trans (.new ht))) (.ofRun (v2 := .ref t2) (.inl (.inl ?_)) (nb5.up (.of (sameN ht)))) ?_ ((p5.new ht).le (by omega))
      · rw [upd_same]
        exact congrArg (fun z => some (HO.tup [V.str "run", V.ref t2, z])) em
      · unfold Ok
        exact ⟨by omega, Nat.le_trans (Nat.add_le_add_left hm 2) (by decide), rfl, okb⟩
theorem ok_row (X : GenF K mg fT fO fG fL fR fB fW fU dT dO dG dL dR dB dW dU) {m k : Nat} (hk : m + 3 ≤ k) (hk4 : 4 ≤ k) (GB : FnOk P w K mg base CX0 k fB dB ["pot", "level"] (spBlock K (m + 1))) :
    FnOk P w K mg base CX0 (k + 1) fR dR ["pot", "level", "many"] (spRow K (m + 1)) := by
  have GL : FnOk P w K mg base CX0 3 fL dL ["pot"] (spLeaf K) := ok_leaf X.L X.T X.gT X.bT X.O X.gO X.bO X.len
  have GG : FnOk P w K mg base CX0 1 fG dG ["node"] (spGround K) := ok_ground X.G X.isinstance X.tuple
  have GU : FnOk P w K mg base CX0 (m + 3) fU dU ["node", "level"] (spUnlike K (m + 1)) := ok_unlike X.U X.W X.gW X.bW X.G X.gG X.bG X.isinstance X.tuple
  refine X.R.ok scRow (fun vs H Q E h => ?_) (fun cdv A outer s H vs Q E hr h => ?_)
  · obtain ⟨p, z, l, many, c, rfl, _⟩ := h
    rfl
  · obtain ⟨p, z, l, many, c, rfl, rfl, l2, l3, hm, hp, hc, q⟩ := h
    have r1 := hr.mono (j := 1) (by omega)
    have r3 := hr.mono (j := 3) (by omega)
    have rU := hr.mono (j := m + 3) (by omega)
    refine ⟨_, pss_cons (ps_set (i := 3) scRow.nd rfl (.inl rfl) (pe_lst pa_nil))
      (pss_cons (ps_while PassesOwn.never (pt_cmpR op_lt (pe_callB call_len_seq (by rfl) X.len PySem.boot_len (pa_cons (pv 3) pa_nil)) (pv 2) (nomark _))
        (pss_cons (ps_set (i := 4) scRow.nd rfl (.inl rfl) (pe_ifExp (pt_cmpR op_eq (pv 1) pe_int (nomark _)) (pe_call GL r3 (by rfl) X.gL X.L.kp X.bL .nil pass0 (pa_cons (pv 0) pa_nil)) (pe_call GB hr (by rfl) X.gB X.B.kp X.bB .nil pass0 (pa_cons (pv 0) (pa_cons (pv 1) pa_nil)))))
        (pss_cons (ps_if (PW.pt (pw_and (pt_cmpR (op_neD hr.units) (pv 3) (pe_lst pa_nil) (nomark _)) (pw_and1 (pt_cmpR (op_eqD hr.units) (pe_call GG r1 (by rfl) X.gG X.G.kp X.bG .nil pass0 (pa_cons (pe_ix ix_list (pv 3) (pe_un un_neg pe_int) (fun _ _ => rfl)) pa_nil))
            (pe_call GG r1 (by rfl) X.gG X.G.kp X.bG .nil pass0 (pa_cons (pv 4) pa_nil)) (nomark _))))) (pss_one (ps_set (i := 4) scRow.nd rfl (.inl rfl) (pe_ix ix_list (pv 3) pe_int (fun _ _ => rfl)))) pss_nil)
        (pss_cons (ps_if (PW.pt (pw_and (pt_cmpR (op_neD hr.units) (pv 3) (pe_lst pa_nil) (nomark _)) (pw_and1 (pt_cmpR (op_eqD hr.units) (pe_call GG r1 (by rfl) X.gG X.G.kp X.bG .nil pass0 (pa_cons (pe_ix ix_list (pv 3) (pe_un un_neg pe_int) (fun _ _ => rfl)) pa_nil))
            (pe_call GG r1 (by rfl) X.gG X.G.kp X.bG .nil pass0 (pa_cons (pv 4) pa_nil)) (nomark _))))) (pss_one (ps_set (i := 4) scRow.nd rfl (.inl rfl) (pe_call GU rU (by rfl) X.gU X.U.kp X.bU .nil pass0 (pa_cons (pe_ix ix_list (pv 3) (pe_un un_neg pe_int) (fun _ _ => rfl)) (pa_cons (pv 1) pa_nil))))) pss_nil)
        (pss_one (ps_expr (pe_bm PySem.F.plainAttrs_list PySem.F.slot_list_append PySem.F.type_list_append mt_append (pv 3) (pa_cons (pv 4) pa_nil)))))))) 
      (pss_one (ps_ret (pv 3)))), ?_⟩
    refine ⟨(show 0 ≤ sizeLine from by decide), fun F hF => ?_⟩
    have nFp : F ≠ p := hp.ne hF
    refine ⟨fun m' σ H' => ∃ vs' ns y4, m' = many - ns.length ∧ ns.length ≤ many ∧ σ = [some (.ref p), some (.int l), some (.int many), some (.ref F), y4] ∧ H' F = some (.lst vs') ∧ NdsV K H' vs' ns ∧ OkAll ns l ∧ Unb ns ∧ But p H H' ∧ Pot H' p (c + ns.length * cost l),
      ⟨many, [], [], none, rfl, Nat.zero_le _, rfl, upd_same, .nil, by unfold OkAll; trivial, trivial, .new hF, (hp.new hF).le (by simp)⟩, ?_⟩
    rintro m' σ H1 ⟨vs', ns, y4, rfl, hle, rfl, e1, e2, e3, e4, e5, e6⟩
    refine ⟨.ref F, rfl, F, vs', rfl, .inl (.inl (.inl e1)), _, rfl, _, _, rfl, rfl, _, rfl, ite2 (fun e => ?_) (fun e => ?_)⟩
    · have hlt : ns.length < many := by
        have : ((vs'.length : Nat) : Int) < (many : Int) := of_decide_eq_true e
        rw [e2.len] at this
        omega
      have mul : ns.length * cost l ≤ 10 * cost l := Nat.mul_le_mul_right _ (by omega)
      have cp := cost_pos l
      refine ⟨fun σ' H' => ∃ vs' ns' y4, ns'.length = ns.length + 1 ∧ σ' = [some (.ref p), some (.int l), some (.int many), some (.ref F), y4] ∧ H' F = some (.lst vs') ∧ NdsV K H' vs' ns' ∧ OkAll ns' l ∧ Unb ns' ∧ But p H H' ∧ Pot H' p (c + ns'.length * cost l),
        fun σ' H' hN => ?_, ?_⟩
      · obtain ⟨v2, n2, y, k1, k2, k3⟩ := hN
        exact ⟨many - n2.length, by omega, v2, n2, y, rfl, by omega, k2, k3⟩
      -- node = leaf or block
      refine if_any (fun b H' => H1 = H' ∧ (b = true ↔ l = 0)) (fun b H' hS => ?_) (fun R hR => ?_)
      · obtain ⟨rfl, hb⟩ := hS
        refine joinIf (fun v H' => ∃ n, NdV K H' v n ∧ Ok n l ∧ But p H1 H' ∧ Pot H' p (c + ns.length * cost l + cost l)) (fun v H2 hS => ?_) (fun ey R hR => ?_) (fun en R hR => ?_)
        · obtain ⟨n, hn, okn, b2, p2⟩ := hS
          have f2 := b2.at nFp e1
          have d2 : NdsV K H2 vs' ns := e2.up (b2.tupsP e6)
          have bH2 := e5.trans b2
          dsimp only [gName, tSeq]
          refine ifs_any (fun b H' => Same H2 H' ∧ (b = true → ns ≠ []) ∧ (b = false → ∀ x, ns.getLast? = some x → x.base ≠ n.base)) (fun b H3 hS => ?_) (fun R hR => ?_)
          · obtain ⟨s3, nb1, nb2⟩ := hS
            refine joinS (fun σ' H' => ∃ v n', σ' = [some (.ref p), some (.int l), some (.int many), some (.ref F), some v] ∧ NdV K H' v n' ∧ Ok n' l ∧ Same H2 H') (fun σ4 H4 hS4 => ?_) (fun eb N hN => ?_) (fun eb N hN => ?_)
            · obtain ⟨v4, n4, rfl, hn4, ok4, s4⟩ := hS4
              have f4 := s4 _ _ f2
              have d4 : NdsV K H4 vs' ns := d2.up (.of s4)
              dsimp only [tSeq]
              refine ifs_any (fun b H' => Same H2 H' ∧ NdV K H' v4 n4 ∧ (b = true → ns ≠ []) ∧ (b = false → ∀ x, ns.getLast? = some x → x.base ≠ n4.base)) (fun b H5 hS => ?_) (fun R hR => ?_)
              · obtain ⟨s5, hn5, nb3, nb4⟩ := hS
                refine joinS (fun σ' H' => ∃ v n', σ' = [some (.ref p), some (.int l), some (.int many), some (.ref F), some v] ∧ NdV K H' v n' ∧ Ok n' l ∧ Same H2 H' ∧ ∀ x, ns.getLast? = some x → x.base ≠ n'.base) (fun σ6 H6 hS6 => ?_) (fun eb N hN => ?_) (fun eb N hN => ?_)
                · obtain ⟨v6, n6, rfl, hn6, ok6, s6, un6⟩ := hS6
                  have f6 := s6 _ _ f2
                  have d6 : NdsV K H6 vs' ns := d2.up (.of s6)
                  refine ⟨.ref F, rfl, .inl ⟨rfl, _, .inl (.inl f6)⟩, v6, rfl, F, _, _, rfl, rfl, f6, ?_, vs' ++ [v6], ns ++ [n6], some v6, by rw [List.length_append]; rfl, rfl, upd_same, ?_, ?_, unb_app e4 un6, (bH2.trans (Same.but s6)).wr hF, ?_⟩
                  · rw [d6.len]
                    exact line5 (by omega)
                  · have t6 : Tups K H6 (upd H6 F (.lst (vs' ++ [v6]))) := (But.set (p := F)).tups f6
                    exact (d6.up t6).app (.one (hn6.up t6))
                  · exact OkAll.of fun x hx => by
                      rcases List.mem_append.mp hx with hx | hx
                      · exact e3.mem x hx
                      · rw [List.mem_singleton.mp hx]
                        exact ok6
                  · obtain ⟨o, ho, po⟩ := p2
                    refine Pot.oth ⟨o, s6 _ _ ho, po.le ?_⟩ nFp.symm
                    rw [List.length_append, Nat.add_mul]
                    simp
                    omega
                · have hne := nb3 eb
                  rcases List.eq_nil_or_concat ns with rfl | ⟨init, z, rfl⟩
                  · exact absurd rfl hne
                  · rw [List.concat_eq_append] at *
                    have f5 := s5 _ _ f2
                    have d5 : NdsV K H5 vs' (init ++ [z]) := d2.up (.of s5)
                    obtain ⟨u, eu, hz⟩ := d5.last
                    have okz : Ok z l := e3.mem z (by simp)
                    refine ⟨.ref F, rfl, 1, rfl, F, _, -1, u, rfl, rfl, .inl (.inl f5), eu, _, rfl, u, z, l, rfl, l2, l3, hz, okz, fun H' v' n' s' hn' ok' un' => hN _ _ ⟨v', n', rfl, hn', ok', s5.trans s', fun x hx => ?_⟩⟩
                    have : x = z := by
                      rw [List.getLast?_append] at hx
                      simpa using hx.symm
                    rw [this]
                    exact un'.symm
                · exact hN _ _ ⟨v4, n4, rfl, hn5, ok4, s5, nb4 eb⟩
              · exact (by
            refine ⟨.ref F, rfl, (show 0 ≤ sizeLine from by decide), fun l9 hl9 => ⟨_, _, .lst (.inl (.inl ?_)) (d4.up (.of (sameN hl9))), .lst (.inl (.inl upd_same)) .nil, (shaped_all e3 l3).1, shaped_nil, _, rfl, ?_⟩⟩
            · rw [upd_ne (ne_of_none f4 hl9)]
              exact f4
            · rw [eqv_emptyN]
              rcases List.eq_nil_or_concat ns with rfl | ⟨init, z, rfl⟩
              · exact hR _ _ ⟨s4.trans (sameN hl9), hn4.up (.of (sameN hl9)), (fun z => nomatch z), fun _ x hx => nomatch hx⟩
              · rw [List.concat_eq_append] at *
                have z0 : (init ++ [z]).isEmpty = false := by simp
                rw [z0]
                have s9 := sameN (o := .lst []) hl9
                have d9 : NdsV K _ vs' (init ++ [z]) := d4.up (.of s9)
                obtain ⟨u, eu, hz⟩ := d9.last
                have okz : Ok z l := e3.mem z (by simp)
                refine ⟨.ref F, rfl, 1, rfl, F, _, -1, u, rfl, rfl, .inl (.inl (s9 _ _ f4)), eu, u, z, rfl, hz, fun w1 hw1 => ⟨_, rfl, v4, n4, rfl, hn4.up (.of s9), fun w2 hw2 => ⟨_, _, hw1, hw2, shaped_dat okz.base.1 l3, shaped_dat ok4.base.1 l3, _, rfl, hR _ _ ⟨s4.trans s9, hn4.up (.of s9), fun _ => by simp, fun eb x hx => by
                  have : x = z := by
                    rw [List.getLast?_append] at hx
                    simpa using hx.symm
                  rw [this]
                  intro eq
                  rw [eqv_yes eq] at eb
                  cases eb⟩⟩⟩⟩)
            · have hne := nb1 eb
              obtain ⟨x0, hx0⟩ := get_of (l := ns) (i := 0) (List.length_pos_iff.mpr hne)
              have f3 := s3 _ _ f2
              have d3 : NdsV K H3 vs' ns := d2.up (.of s3)
              obtain ⟨u, hu, k⟩ := d3.at hx0
              refine ⟨.ref F, rfl, F, _, 0, u, rfl, rfl, .inl (.inl f3), atI_nat (j := 0) hu, hN _ _ ⟨u, x0, rfl, k, e3.mem x0 (List.mem_of_getElem? hx0), s3⟩⟩
            · exact hN _ _ ⟨v, n, rfl, hn.up (.of s3), okn, s3⟩
          · exact (by
            refine ⟨.ref F, rfl, (show 0 ≤ sizeLine from by decide), fun l9 hl9 => ⟨_, _, .lst (.inl (.inl ?_)) (d2.up (.of (sameN hl9))), .lst (.inl (.inl upd_same)) .nil, (shaped_all e3 l3).1, shaped_nil, _, rfl, ?_⟩⟩
            · rw [upd_ne (ne_of_none f2 hl9)]
              exact f2
            · rw [eqv_emptyN]
              rcases List.eq_nil_or_concat ns with rfl | ⟨init, z, rfl⟩
              · exact hR _ _ ⟨sameN hl9, (fun z => nomatch z), fun _ x hx => nomatch hx⟩
              · rw [List.concat_eq_append] at *
                have z0 : (init ++ [z]).isEmpty = false := by simp
                rw [z0]
                have s9 := sameN (o := .lst []) hl9
                have d9 : NdsV K _ vs' (init ++ [z]) := d2.up (.of s9)
                obtain ⟨u, eu, hz⟩ := d9.last
                have okz : Ok z l := e3.mem z (by simp)
                refine ⟨.ref F, rfl, 1, rfl, F, _, -1, u, rfl, rfl, .inl (.inl (s9 _ _ f2)), eu, u, z, rfl, hz, fun w1 hw1 => ⟨_, rfl, v, n, rfl, hn.up (.of s9), fun w2 hw2 => ⟨_, _, hw1, hw2, shaped_dat okz.base.1 l3, shaped_dat okn.base.1 l3, _, rfl, hR _ _ ⟨s9, fun _ => by simp, fun eb x hx => by
                  have : x = z := by
                    rw [List.getLast?_append] at hx
                    simpa using hx.symm
                  rw [this]
                  intro eq
                  rw [eqv_yes eq] at eb
                  cases eb⟩⟩⟩⟩)
        · have l0 := hb.mp ey
          subst l0
          refine ⟨.ref p, rfl, p, _, rfl, e6, by omega, fun v n H' b' p' hn okn => hR _ _ ⟨n, hn, okn, b', p'.le (by omega)⟩⟩
        · have l0 : l ≠ 0 := fun z => by
            rw [hb.mpr z] at en
            cases en
          refine ⟨.ref p, rfl, _, rfl, p, l, _, rfl, by omega, l2, l3, e6, by omega, fun H' v n b' hn okn p' => hR _ _ ⟨n, hn, okn, b', p'⟩⟩
      · refine ⟨_, rfl, rfl, _, rfl, hR _ _ ⟨rfl, ?_⟩⟩
        rw [decide_eq_true_iff]
        constructor
        · intro z
          have := V.int.inj z
          omega
        · rintro rfl
          rfl
    · have heq : ns.length = many := by
        have : ¬ ((vs'.length : Nat) : Int) < (many : Int) := fun z => e (decide_eq_true z)
        rw [e2.len] at this
        omega
      rw [heq] at e6
      exact ⟨_, rfl, q _ F vs' ns e5 hF e1 e2 e3 e4 heq e6⟩
end
section
variable {P : Program} {w : World} {K : PySem.W.Frag} {mg : Str → Option Value} {base : Heap}
variable {fT fO fG fL fR fB fW fU : Addr} {dT dO dG dL dR dB dW dU : FuncData}
theorem gen_row (X : GenF K mg fT fO fG fL fR fB fW fU dT dO dG dL dR dB dW dU) : ∀ m : Nat, FnOk P w K mg base CX0 (2 * m + 3) fR dR ["pot", "level", "many"] (spRow K m)
  | 0 => ⟨fun vs H Q E h => by obtain ⟨p, z, l, many, c, _, _, h, _⟩ := h; exact absurd h (Nat.not_lt_zero _), fun A outer s H args us vs Q E _ _ _ _ h => by obtain ⟨p, z, l, many, c, _, _, h, _⟩ := h; exact absurd h (Nat.not_lt_zero _)⟩
  | m + 1 => ok_row X (by omega) (by omega) (ok_block X (by omega) (gen_row X m))
end
set_option maxHeartbeats 0 in
structure Facts (K : PySem.W.Frag) (mg : Str → Option Value) where
  {uis_whole : Addr} {vis_whole : FuncData}
  fis_whole : Fun K "is_whole" "is_whole" sWhole uis_whole vis_whole
  gis_whole : mg "is_whole" = some (.ref uis_whole)
  bis_whole : Binds K vis_whole ["value"] []
  {uis_element : Addr} {vis_element : FuncData}
  fis_element : Fun K "is_element" "is_element" sElement uis_element vis_element
  gis_element : mg "is_element" = some (.ref uis_element)
  bis_element : Binds K vis_element ["value"] []
  {uis_count : Addr} {vis_count : FuncData}
  fis_count : Fun K "is_count" "is_count" sCount uis_count vis_count
  gis_count : mg "is_count" = some (.ref uis_count)
  bis_count : Binds K vis_count ["value", "least"] []
  {uis_run : Addr} {vis_run : FuncData}
  fis_run : Fun K "is_run" "is_run" sIsRun uis_run vis_run
  gis_run : mg "is_run" = some (.ref uis_run)
  bis_run : Binds K vis_run ["value"] []
  {uis_block : Addr} {vis_block : FuncData}
  fis_block : Fun K "is_block" "is_block" sIsBlk uis_block vis_block
  gis_block : mg "is_block" = some (.ref uis_block)
  bis_block : Binds K vis_block ["value"] []
  {ubase_of : Addr} {vbase_of : FuncData}
  fbase_of : Fun K "base_of" "base_of" sBase ubase_of vbase_of
  gbase_of : mg "base_of" = some (.ref ubase_of)
  bbase_of : Binds K vbase_of ["node"] []
  {uis_node : Addr} {vis_node : FuncData}
  fis_node : Fun K "is_node" "is_node" sIsNode uis_node vis_node
  gis_node : mg "is_node" = some (.ref uis_node)
  bis_node : Binds K vis_node ["value"] []
  {ucan_be_parts : Addr} {vcan_be_parts : FuncData}
  fcan_be_parts : Fun K "_can_be_parts" "_can_be_parts" sParts ucan_be_parts vcan_be_parts
  gcan_be_parts : mg "_can_be_parts" = some (.ref ucan_be_parts)
  bcan_be_parts : Binds K vcan_be_parts ["values"] []
  {ufit_together : Addr} {vfit_together : FuncData}
  ffit_together : Fun K "_fit_together" "_fit_together" sFit ufit_together vfit_together
  gfit_together : mg "_fit_together" = some (.ref ufit_together)
  bfit_together : Binds K vfit_together ["nodes"] []
  {ulevel_of : Addr} {vlevel_of : FuncData}
  flevel_of : Fun K "level_of" "level_of" sLevel ulevel_of vlevel_of
  glevel_of : mg "level_of" = some (.ref ulevel_of)
  blevel_of : Binds K vlevel_of ["node"] []
  {ul_pot : Addr} {vl_pot : FuncData}
  fl_pot : Fun K "_law_pot" "_law_pot" sPot ul_pot vl_pot
  gl_pot : mg "_law_pot" = some (.ref ul_pot)
  bl_pot : Binds K vl_pot ["script", "k"] []
  {ul_take : Addr} {vl_take : FuncData}
  fl_take : Fun K "_law_take" "_law_take" sTake ul_take vl_take
  gl_take : mg "_law_take" = some (.ref ul_take)
  bl_take : Binds K vl_take ["pot", "bound"] []
  {ul_of : Addr} {vl_of : FuncData}
  fl_of : Fun K "_law_of" "_law_of" sOf ul_of vl_of
  gl_of : mg "_law_of" = some (.ref ul_of)
  bl_of : Binds K vl_of ["pot", "some"] []
  {ul_ground : Addr} {vl_ground : FuncData}
  fl_ground : Fun K "_law_ground" "_law_ground" sGround ul_ground vl_ground
  gl_ground : mg "_law_ground" = some (.ref ul_ground)
  bl_ground : Binds K vl_ground ["node"] []
  {ul_leaf : Addr} {vl_leaf : FuncData}
  fl_leaf : Fun K "_law_leaf" "_law_leaf" sLeaf ul_leaf vl_leaf
  gl_leaf : mg "_law_leaf" = some (.ref ul_leaf)
  bl_leaf : Binds K vl_leaf ["pot"] []
  {ul_row : Addr} {vl_row : FuncData}
  fl_row : Fun K "_law_row" "_law_row" sRow ul_row vl_row
  gl_row : mg "_law_row" = some (.ref ul_row)
  bl_row : Binds K vl_row ["pot", "level", "many"] []
  {ul_block : Addr} {vl_block : FuncData}
  fl_block : Fun K "_law_block" "_law_block" sBlock ul_block vl_block
  gl_block : mg "_law_block" = some (.ref ul_block)
  bl_block : Binds K vl_block ["pot", "level"] []
  {ul_twins : Addr} {vl_twins : FuncData}
  fl_twins : Fun K "_law_twins" "_law_twins" sTwins ul_twins vl_twins
  gl_twins : mg "_law_twins" = some (.ref ul_twins)
  bl_twins : Binds K vl_twins ["level"] []
  {ul_unlike : Addr} {vl_unlike : FuncData}
  fl_unlike : Fun K "_law_unlike" "_law_unlike" sUnlike ul_unlike vl_unlike
  gl_unlike : mg "_law_unlike" = some (.ref ul_unlike)
  bl_unlike : Binds K vl_unlike ["node", "level"] []
  {ul_odd : Addr} {vl_odd : FuncData}
  fl_odd : Fun K "_law_odd" "_law_odd" sOdd ul_odd vl_odd
  gl_odd : mg "_law_odd" = some (.ref ul_odd)
  bl_odd : Binds K vl_odd ["pot", "deep"] []
  {ul_bent : Addr} {vl_bent : FuncData}
  fl_bent : Fun K "_law_bent" "_law_bent" sBent ul_bent vl_bent
  gl_bent : mg "_law_bent" = some (.ref ul_bent)
  bl_bent : Binds K vl_bent ["pot", "thing"] []
  {ul_is_whole : Addr} {vl_is_whole : FuncData}
  fl_is_whole : Fun K "_law_is_whole" "_law_is_whole" sLWhole ul_is_whole vl_is_whole
  gl_is_whole : mg "_law_is_whole" = some (.ref ul_is_whole)
  bl_is_whole : Binds K vl_is_whole ["thing", "least", "most"] []
  {ul_level : Addr} {vl_level : FuncData}
  fl_level : Fun K "_law_level" "_law_level" sLLevel ul_level vl_level
  gl_level : mg "_law_level" = some (.ref ul_level)
  bl_level : Binds K vl_level ["thing"] []
  abs : mg "abs" = none
  bool : mg "bool" = none
  int : mg "int" = none
  isinstance : mg "isinstance" = none
  len : mg "len" = none
  list : mg "list" = none
  max : mg "max" = none
  min : mg "min" = none
  range : mg "range" = none
  repr : mg "repr" = none
  set : mg "set" = none
  str : mg "str" = none
  tuple : mg "tuple" = none
  zip : mg "zip" = none

end C01

set_option Elab.async false
set_option linter.all false
set_option maxRecDepth 100000
namespace C01
open PySem PySem.Spec PyProof.Rows L2 Loc RZ
/-! ### is_runs of any value, and the law's own look -/
section
variable {P : Program} {w : World} {K : PySem.W.Frag} {mg : Str → Option Value} {base : Heap}
theorem scWhole : FnScope ["value"] ["value"] (defScope sWhole) := ⟨rfl, rfl, rfl, by decide +kernel, rfl, by decide +kernel, by decide +kernel⟩
theorem scElement : FnScope ["value"] ["value"] (defScope sElement) := ⟨rfl, rfl, rfl, by decide +kernel, rfl, by decide +kernel, by decide +kernel⟩
theorem scCount : FnScope ["value", "least"] ["value", "least"] (defScope sCount) := ⟨rfl, rfl, rfl, by decide +kernel, rfl, by decide +kernel, by decide +kernel⟩
def spWholeQ (K : PySem.W.Frag) : Sp := fun vs H Q _ => ∃ v d, vs = [v] ∧ Dq K H v d ∧ Q (.bl (whD d)) H
def spElementQ (K : PySem.W.Frag) : Sp := fun vs H Q _ => ∃ v d, vs = [v] ∧ Dq K H v d ∧ Q (.bl (elD d)) H
def spCountQ (K : PySem.W.Frag) : Sp := fun vs H Q _ => ∃ v d l, vs = [v, .int l] ∧ Dq K H v d ∧ Q (.bl (cntD l d)) H
theorem ok_wholeQ {f : Addr} {fd : FuncData} {k : Nat} (F : Fun K "is_whole" "is_whole" sWhole f fd) (mi : mg "isinstance" = none) (mn : mg "int" = none) (mb : mg "bool" = none) : FnOk P w K mg base CX0 (k + 1) f fd ["value"] (spWholeQ K) := by
  refine F.ok scWhole (fun vs H Q E h => ?_) (fun cdv A outer s H vs Q E hr h => ?_)
  · obtain ⟨z, d, rfl, _⟩ := h
    rfl
  · obtain ⟨v, d, rfl, hv, q⟩ := h
    refine ⟨_, pss_one (ps_ret (pe_and (pe_callB call_isi (by rfl) mi PyProof.Rows.boot_isinstance (pa_cons (pv 0) (pa_cons (pe_bltn (v := .ty "int") (by rfl) mn (by decide +kernel) rfl) pa_nil)))
      (pe_one (pe_not (pe_callB call_isi (by rfl) mi PyProof.Rows.boot_isinstance (pa_cons (pv 0) (pa_cons (pe_bltn (v := .ty "bool") (by rfl) mb (by decide +kernel) rfl) pa_nil))))))), ?_⟩
    refine andV_isi (i := 0) (v := v) rfl (Same.refl H) hv (kit_int d) (fun e => ?_) (fun e => ?_)
    · refine notV_isi (i := 0) (v := v) rfl (Same.refl H) hv (kit_bool d) ?_
      have : (!isBoolD d) = whD d := by cases d <;> first | rfl | cases e
      rw [this]
      exact q
    · have : whD d = false := by cases d <;> first | rfl | cases e
      rw [this] at q
      exact q
theorem wh_inv {H : Hp} {v : V} {d : PyData} (h : Dq K H v d) (e : whD d = true) : ∃ z, d = .int z ∧ v = .int z := by
  cases h with
  | int z => exact ⟨z, rfl, rfl⟩
  | _ => cases e
theorem ok_elementQ {f g : Addr} {fd gd : FuncData} {k : Nat} (F : Fun K "is_element" "is_element" sElement f fd) (W : Fun K "is_whole" "is_whole" sWhole g gd) (gW : mg "is_whole" = some (.ref g)) (bW : Binds K gd ["value"] [])
    (mi : mg "isinstance" = none) (mn : mg "int" = none) (mb : mg "bool" = none) : FnOk P w K mg base CX0 (k + 2) f fd ["value"] (spElementQ K) := by
  have GW : FnOk P w K mg base CX0 (k + 1) g gd ["value"] (spWholeQ K) := ok_wholeQ W mi mn mb
  refine F.ok scElement (fun vs H Q E h => ?_) (fun cdv A outer s H vs Q E hr h => ?_)
  · obtain ⟨z, d, rfl, _⟩ := h
    rfl
  · obtain ⟨v, d, rfl, hv, q⟩ := h
    refine ⟨_, pss_one (ps_ret (pe_and (pe_call GW hr (by rfl) gW W.kp bW .nil pass0 (pa_cons (pv 0) pa_nil)) (pe_one (pe_chain op_le op_le pe_int (pv 0) (pe_op op_pow pe_int pe_int))))), ?_⟩
    refine ⟨v, rfl, v, d, rfl, hv, _, rfl, ?_⟩
    cases e : whD d with
    | true =>
      obtain ⟨z, rfl, rfl⟩ := wh_inv hv e
      refine iteT ⟨_, rfl, 0, z, rfl, rfl, _, rfl, ?_⟩
      replace q : Q (.bl (decide (0 ≤ z) && decide (z ≤ 10 ^ 9))) H := q
      by_cases h1 : 0 ≤ z
      · rw [decide_eq_true h1] at q ⊢
        refine iteT ⟨10, 9, rfl, rfl, ⟨by decide, by decide, by decide⟩, _, _, rfl, rfl, ?_⟩
        exact q
      · rw [decide_eq_false h1] at q ⊢
        exact iteF q
    | false =>
      have : elD d = false := by cases d <;> first | rfl | cases e
      rw [this] at q
      exact iteF q
theorem ok_countQ {f g : Addr} {fd gd : FuncData} {k : Nat} (F : Fun K "is_count" "is_count" sCount f fd) (W : Fun K "is_whole" "is_whole" sWhole g gd) (gW : mg "is_whole" = some (.ref g)) (bW : Binds K gd ["value"] [])
    (mi : mg "isinstance" = none) (mn : mg "int" = none) (mb : mg "bool" = none) : FnOk P w K mg base CX0 (k + 2) f fd ["value", "least"] (spCountQ K) := by
  have GW : FnOk P w K mg base CX0 (k + 1) g gd ["value"] (spWholeQ K) := ok_wholeQ W mi mn mb
  refine F.ok scCount (fun vs H Q E h => ?_) (fun cdv A outer s H vs Q E hr h => ?_)
  · obtain ⟨z, d, l, rfl, _⟩ := h
    rfl
  · obtain ⟨v, d, l, rfl, hv, q⟩ := h
    refine ⟨_, pss_one (ps_ret (pe_and (pe_call GW hr (by rfl) gW W.kp bW .nil pass0 (pa_cons (pv 0) pa_nil)) (pe_one (pe_chain op_le op_le (pv 1) (pv 0) (pe_op op_pow pe_int pe_int))))), ?_⟩
    refine ⟨v, rfl, v, d, rfl, hv, _, rfl, ?_⟩
    cases e : whD d with
    | true =>
      obtain ⟨z, rfl, rfl⟩ := wh_inv hv e
      refine iteT ⟨_, rfl, _, rfl, l, z, rfl, rfl, _, rfl, ?_⟩
      replace q : Q (.bl (decide (l ≤ z) && decide (z ≤ 10 ^ 60))) H := q
      by_cases h1 : l ≤ z
      · rw [decide_eq_true h1] at q ⊢
        refine iteT ⟨10, 60, rfl, rfl, ⟨by decide, by decide, by decide⟩, _, _, rfl, rfl, ?_⟩
        exact q
      · rw [decide_eq_false h1] at q ⊢
        exact iteF q
    | false =>
      have : cntD l d = false := by cases d <;> first | rfl | cases e
      rw [this] at q
      exact iteF q
end
/-! ### a value of any kind -/
section
variable {P : Program} {w : World} {K : PySem.W.Frag} {mg : Str → Option Value} {base : Heap}
/-- deep: how often at most a value is wrapped -/
def spOdd (K : PySem.W.Frag) : Sp := fun vs H Q _ => ∃ (p : Addr) (S : Addr → Prop) (deep c : Nat), vs = [.ref p, .int deep] ∧ deep ≤ 50 ∧ S p ∧ Kp S H ∧ Pot H p c ∧ c < 900000 ∧
  ∀ v d H', But p H H' → Dq K (wo S H') v d → sm 0 (deep + 4) (4 * deep + 24) d → Pot H' p (c + 60) → Q v H'
def oddA : List PyData := [.none, .bool true, .bool false, .int (-1), .int 0, .int 1, .int ((10 : Int) ^ (9 : Int).toNat + 1), .str "", .str "run", .str "7", .str "block", .tuple [], .list [], .dict [], .tuple [.int 7], .tuple [.int 7, .int 1], .tuple [.tuple [.int 7, .int 1]]]
def oddB : List PyData := [.tuple [.str "run", .int 7, .int 1], .tuple [.str "block", .tuple [.int 1, .int 2]], .tuple [.str "run", .int 7, .int 2]]
theorem odd_sm : ∀ d ∈ oddA ++ oddB, sm 0 3 20 d := by
  have h : (oddA ++ oddB).all (smB 0 3 20) = true := by decide +kernel
  intro d hd
  exact sm_of (List.all_eq_true.mp h d hd)
theorem Dq.sm1 {d e : PyData} {t m b : Nat} (h : sm t m b d) (ht : t ≤ 5) : (e = .tuple [d] ∨ e = .list [d] ∨ e = .dict [(.str "a", d)] ∨ e = .tuple [d, .int 1]) → sm t (m + 1) (b + 4) e := by
  obtain ⟨h1, h2, h3⟩ := h
  have i1 : nc t (.int 1) = true := by
    rw [nc]
    exact decide_eq_true (Nat.le_trans (show 1 ≤ 1 * 10 ^ 60 by decide) (Nat.mul_le_mul_right _ (by omega)))
  have i2 : nc t (.str "a") = true := nc_up (Nat.zero_le t) _ (by decide +kernel)
  rintro (rfl | rfl | rfl | rfl)
  · refine ⟨?_, ?_, ?_⟩
    · simp [nc, ncAll, h1]
    · simp [PyData.depth, PyData.depthAll]
      omega
    · simp [PyData.bulk, PyData.bulkAll]
      omega
  · refine ⟨?_, ?_, ?_⟩
    · simp [nc, ncAll, h1]
    · simp [PyData.depth, PyData.depthAll]
      omega
    · simp [PyData.bulk, PyData.bulkAll]
      omega
  · refine ⟨?_, ?_, ?_⟩
    · rw [nc, ncKv, ncKv, h1, i2]
      rfl
    · simp [PyData.depth, PyData.depthKv]
      omega
    · have e1 : PyData.bulk (.str "a") = 1 := by rfl
      simp [PyData.bulk, PyData.bulkKv]
      simp [PyData.bulk] at e1
      omega
  · refine ⟨?_, ?_, ?_⟩
    · simp [nc, ncAll, h1]
      rw [nc] at i1
      simpa using i1
    · simp [PyData.depth, PyData.depthAll]
      omega
    · simp [PyData.bulk, PyData.bulkAll]
      omega
theorem scOdd : FnScope ["pot", "deep", "some", "thing", "turn"] ["pot", "deep"] (defScope sOdd) := ⟨rfl, rfl, rfl, by decide +kernel, rfl, by decide +kernel, by decide +kernel⟩
set_option maxHeartbeats 0 in
theorem ok_odd {f fT fO : Addr} {fd dT dO : FuncData} (F : Fun K "_law_odd" "_law_odd" sOdd f fd) (T : Fun K "_law_take" "_law_take" sTake fT dT) (gT : mg "_law_take" = some (.ref fT)) (bT : Binds K dT ["pot", "bound"] [])
    (O : Fun K "_law_of" "_law_of" sOf fO dO) (gO : mg "_law_of" = some (.ref fO)) (bO : Binds K dO ["pot", "some"] []) (ml : mg "len" = none) (mr : mg "range" = none) : FnOk P w K mg base CX0 3 f fd ["pot", "deep"] (spOdd K) := by
  have GO : FnOk P w K mg base CX0 2 fO dO ["pot", "some"] spOf := ok_of O T gT bT ml
  refine F.ok scOdd (fun vs H Q E h => ?_) (fun cdv A outer s H vs Q E hr h => ?_)
  · obtain ⟨p, S, deep, c, rfl, _⟩ := h
    rfl
  · obtain ⟨p, S, deep, c, rfl, hd, hSp, hS, hp, hc, q⟩ := h
    refine ⟨_, pss_cons (ps_set (i := 2) scOdd.nd rfl (.inl rfl) (pe_lst (pa_cons pe_non (pa_cons pe_bl (pa_cons pe_bl (pa_cons (pe_un un_neg pe_int) (pa_cons pe_int (pa_cons pe_int (pa_cons (pe_op op_add (pe_op op_pow pe_int pe_int) pe_int)
          (pa_cons pe_str (pa_cons pe_str (pa_cons pe_str (pa_cons pe_str (pa_cons (pe_tup pa_nil) (pa_cons (pe_lst pa_nil) (pa_cons pe_dnewK (pa_cons (pe_tup (pa_cons pe_int pa_nil)) (pa_cons (pe_tup (pa_cons pe_int (pa_cons pe_int pa_nil)))
          (pa_cons (pe_tup (pa_cons (pe_tup (pa_cons pe_int (pa_cons pe_int pa_nil))) pa_nil)) pa_nil)))))))))))))))))))
      (pss_cons (ps_set (i := 3) scOdd.nd rfl (.inl rfl) (pe_call GO hr (by rfl) gO O.kp bO .nil pass0 (pa_cons (pv 0) (pa_cons (pe_op op_cat (pv 2) (pe_lst (pa_cons (pe_tup (pa_cons pe_str (pa_cons pe_int (pa_cons pe_int pa_nil))))
          (pa_cons (pe_tup (pa_cons pe_str (pa_cons (pe_tup (pa_cons pe_int (pa_cons pe_int pa_nil))) pa_nil))) (pa_cons (pe_tup (pa_cons pe_str (pa_cons pe_int (pa_cons pe_int pa_nil)))) pa_nil))))) pa_nil))))
      (pss_cons (ps_for PassesOwn.never rfl (pi_range1 (by rfl) mr (pa_cons (pe_call GO hr (by rfl) gO O.kp bO .nil pass0 (pa_cons (pv 0) (pa_cons (pe_lst (pa_cons pe_int (pa_cons pe_int (pa_cons pe_int (pa_cons pe_int (pa_cons (pv 1) pa_nil)))))) pa_nil))) pa_nil))
          (pg_name (i := 4) scOdd.nd rfl (.inl rfl))
        (pss_one (ps_set (i := 3) scOdd.nd rfl (.inl rfl) (pe_call GO hr (by rfl) gO O.kp bO .nil pass0 (pa_cons (pv 0) (pa_cons (pe_lst (pa_cons (pe_tup (pa_cons (pv 3) pa_nil)) (pa_cons (pe_lst (pa_cons (pv 3) pa_nil))
          (pa_cons (pe_disp (pps_cons pe_str (pv 3) pps_nil) rfl rfl (by decide) (by decide)) (pa_cons (pe_tup (pa_cons (pv 3) (pa_cons pe_int pa_nil))) pa_nil))))) pa_nil))))))
      (pss_one (ps_ret (pv 3))))), ?_⟩
    refine seq_asg ?_
    refine lst_new (K := K) (ds := oddA) hS ?mq (by decide) fun H1 a1 vs1 s1 n1 e1 k1 ne1 => ?_
    case mq => exact (MQs.cons .non (.cons (.bl true) (.cons (.bl false) (.cons (.ofInt fun H Q q => ⟨_, rfl, q⟩) (.cons (.int _) (.cons (.int _) (.cons (.ofInt fun H Q q => ⟨10, 9, rfl, rfl, ⟨by decide, by decide, by decide⟩, _, 1, rfl, rfl, q⟩)
      (.cons (.str _) (.cons (.str _) (.cons (.str _) (.cons (.str _) (.cons (.tup hS .nil (by decide)) (.cons (.lst hS .nil (by decide)) (.cons (.dct0 hS) (.cons (.tup hS (.cons (.int _) .nil) (by decide)) (.cons (.tup hS (.cons (.int _) (.cons (.int _) .nil)) (by decide))
      (.cons (.tup hS (.cons (.tup hS (.cons (.int _) (.cons (.int _) .nil)) (by decide)) .nil) (by decide)) .nil)))))))))))))))))
    refine ⟨.ref p, rfl, .ref a1, rfl, ?_⟩
    have ho1 := hS.up s1
    refine lst_new (K := K) (ds := oddB) ho1 (MQs.cons (.tup ho1 (.cons (.str _) (.cons (.int _) (.cons (.int _) .nil))) (by decide)) (.cons (.tup ho1 (.cons (.str _) (.cons (.tup ho1 (.cons (.int _) (.cons (.int _) .nil)) (by decide)) .nil)) (by decide))
      (.cons (.tup ho1 (.cons (.str _) (.cons (.int _) (.cons (.int _) .nil))) (by decide)) .nil))) (by decide) fun H2 a2 vs2 s2 n2 e2 k2 ne2 => ?_
    have l1 : vs1.length = 17 := k1.len
    have l2 : vs2.length = 3 := k2.len
    refine ⟨a1, a2, vs1, vs2, rfl, rfl, s2 _ _ e1, e2, by rw [l1, l2]; decide, fun a3 n3 => ?_⟩
    have s12 := s1.trans s2
    have ho2 := hS.up s12
    have ne3 : a3 ≠ p := fun z => ho2.new n3 (by rw [z]; exact hSp)
    have p3 : Pot (upd H2 a3 (.lst (vs1 ++ vs2))) p c := by
      obtain ⟨o', e', r'⟩ := hp
      exact ⟨o', by rw [upd_ne ne3.symm]; exact s12 _ _ e', r'⟩
    have k3 : DqAll K (wo S (upd H2 a3 (.lst (vs1 ++ vs2)))) (vs1 ++ vs2) (oddA ++ oddB) := ((k1.up (wo_up s2)).app k2).up (wo_up (sameN n3))
    refine ⟨p, a3, _, c, rfl, p3, by omega, ne3, upd_same, fun z => ?_, ?_, fun j x H4 hj b4 p4 => ?_⟩
    · have := congrArg List.length z
      rw [List.length_append, l1, l2] at this
      cases this
    · rw [List.length_append, l1, l2]
      decide
    obtain ⟨d, hdj, hx⟩ := k3.get hj
    have sm0 := odd_sm d (List.mem_of_getElem? hdj)
    have b04 : But p H H4 := (Same.but (s12.trans (sameN n3))).trans b4
    replace hx := hx.up (But.wo hSp b4)
    refine ⟨.ref p, rfl, .int deep, rfl, (show 5 ≤ sizeLine from by decide), fun l5 n5 => ?_⟩
    refine ⟨p, l5, _, _, rfl, p4.new n5, by omega, p4.ne n5, upd_same, List.cons_ne_nil _ _, (show 5 ≤ 1000 from by decide), fun j2 x2 H5 hj2 b5 p5 => ?_⟩
    obtain ⟨n, rfl, hn⟩ : ∃ n : Nat, x2 = .int n ∧ n ≤ max 1 deep := by
      have := List.mem_of_getElem? hj2
      simp only [List.mem_cons, List.not_mem_nil, or_false] at this
      rcases this with rfl | rfl | rfl | rfl | rfl
      · exact ⟨0, rfl, by omega⟩
      · exact ⟨0, rfl, by omega⟩
      · exact ⟨0, rfl, by omega⟩
      · exact ⟨1, rfl, by omega⟩
      · exact ⟨deep, rfl, by omega⟩
    have b05 : But p H H5 := b04.trans ((But.new n5).trans b5)
    have hx5 := (hx.up (wo_up (sameN n5))).up (But.wo hSp b5)
    refine ⟨n, rfl, by omega, by omega, ?_⟩
    refine for_range (n := n) (fun i σ H' => ∃ v d y4, σ = [some (.ref p), some (.int deep), some (.ref a1), some v, y4] ∧ But p H H' ∧ Dq K (wo S H') v d ∧ sm 0 (3 + i) (20 + 4 * i) d ∧ Pot H' p (c + 2 + i)) ⟨x, d, none, rfl, b05, hx5, sm0, p5⟩ (fun i σ H' hi hp' => ?_) (fun σ H' hp' => ?_)
    · obtain ⟨v, d, y4, rfl, b6, hv, sd, p6⟩ := hp'
      have hi' : i < n := hi
      refine ⟨.ref p, rfl, ?_⟩
      have ho6 := hS.but b6 p6
      refine lst_new (K := K) (ds := [.tuple [d], .list [d], .dict [(.str "a", d)], .tuple [d, .int 1]]) ho6 (MQs.cons (.tup ho6 (.cons (.v rfl hv) .nil) (show 1 ≤ 1000 by decide)) (.cons (.lst ho6 (.cons (.v rfl hv) .nil) (show 1 ≤ 1000 by decide)) (.cons (.dct1 ho6 rfl hv)
        (.cons (.tup ho6 (.cons (.v rfl hv) (.cons (.int _) .nil)) (show 2 ≤ 1000 by decide)) .nil)))) (show 4 ≤ 1000 by decide) fun H7 a7 vs7 s7 n7 e7 k7 ne7 => ?_
      have p7 : Pot H7 p (c + 2 + i) := by
        obtain ⟨o', e', r'⟩ := p6
        exact ⟨o', s7 _ _ e', r'⟩
      have l7 : vs7.length = 4 := k7.len
      refine ⟨p, a7, vs7, _, rfl, p7, by omega, (fun z => ne7 (by rw [z]; exact hSp)), e7, (fun z => by rw [z] at l7; cases l7), (by rw [l7]; decide), fun j x H8 hj b8 p8 => ?_⟩
      obtain ⟨d8, hd8, hx8⟩ := k7.get hj
      have key := Dq.sm1 (e := d8) sd (by decide) (by
        have := List.mem_of_getElem? hd8
        simpa only [List.mem_cons, List.not_mem_nil, or_false] using this)
      exact ⟨x, d8, _, rfl, b6.trans ((Same.but s7).trans b8), hx8.up (But.wo hSp b8), key.up (by omega) (by omega) (by omega), p8.le (by omega)⟩
    · obtain ⟨v, d, y4, rfl, b6, hv, sd, p6⟩ := hp'
      exact ⟨v, rfl, q v d H' b6 hv (sd.up (by omega) (by omega) (by omega)) (p6.le (by omega))⟩
end
end C01

set_option Elab.async false
set_option linter.all false
set_option maxRecDepth 100000
namespace C01
open PySem PySem.Spec PyProof.Rows L2 Loc RZ
/-! ### a value with something changed -/
section
variable {P : Program} {w : World} {K : PySem.W.Frag} {mg : Str → Option Value} {base : Heap}
theorem seq_if {T : TT} {t u : TS} {D : Ends} {σ : L2.St} {H : Hp} (S : Bool → Hp → Prop) (h : ∀ R : Bool → Hp → Prop, (∀ b H', S b H' → R b H') → T σ H R) (yes : ∀ H', S true H' → t { D with nx := u D } σ H') (no : ∀ H', S false H' → u D σ H') : tSeq (tIfS T t tNext) u D σ H :=
  h _ fun b H' hs => by
    cases b with
    | true =>
      rw [if_pos rfl]
      exact yes H' hs
    | false =>
      rw [if_neg Bool.false_ne_true]
      exact no H' hs
theorem sqt_wo {S : Addr → Prop} {t : Addr} {H : Hp} {xs : List V} (hp : Kp S H) (h : SqT K H t xs) : SqT K (wo S H) t xs := by
  rcases h with (h | ⟨o, h⟩) | h
  · exact .inl (.inl (by rw [wo_ne (fun z => by obtain ⟨ys, e⟩ := hp _ z; rw [h] at e; cases e)]; exact h))
  · exact .inl (.inr ⟨o, by rw [wo_ne (fun z => by obtain ⟨ys, e⟩ := hp _ z; rw [h] at e; cases e)]; exact h⟩)
  · exact .inr h
theorem slice_to {H : Hp} {a : Addr} {xs : List V} {n : Nat} {Q : VK} (h : SqT K H a xs) (l : n ≤ xs.length) (q : ∀ H' t, Same H H' → SqT K H' t (xs.take n) → Q (.ref t) H') : rSlA K (.ref a) none (some (n : Int)) H Q := by
  refine ⟨a, xs, rfl, h, fun hw => ?_, fun hw p hp => q _ p (sameN hp) (.inl (.inl ?_))⟩
  · rw [HT.sIx_nat] at hw
    have e2 : n = xs.length := by omega
    subst e2
    refine q H a (Same.refl H) ?_
    rw [List.take_length]
    exact h
  · rw [upd_same]
    unfold cutV
    rw [HT.sIx_nat]
    have e1 : HT.sIx xs.length 0 none = 0 := rfl
    rw [e1, List.drop_zero, show min n xs.length - 0 = n by omega]
theorem slice_fr {H : Hp} {a : Addr} {xs : List V} {n : Nat} {Q : VK} (h : SqT K H a xs) (l : n ≤ xs.length) (q : ∀ H' t, Same H H' → SqT K H' t (xs.drop n) → Q (.ref t) H') : rSlA K (.ref a) (some (n : Int)) none H Q := by
  refine ⟨a, xs, rfl, h, fun hw => ?_, fun hw p hp => q _ p (sameN hp) (.inl (.inl ?_))⟩
  · rw [HT.sIx_nat] at hw
    have e2 : n = 0 := by omega
    subst e2
    refine q H a (Same.refl H) ?_
    rw [List.drop_zero]
    exact h
  · rw [upd_same]
    unfold cutV
    rw [HT.sIx_nat]
    have e1 : HT.sIx xs.length xs.length none = xs.length := rfl
    rw [e1, show min n xs.length = n by omega, List.take_of_length_le (by rw [List.length_drop]; omega)]
theorem cat_t {H : Hp} {a b : Addr} {xs ys : List V} {Q : VK} (h : SqT K H a xs) (k : SqT K H b ys) (len : xs.length + ys.length ≤ sizeLine) (q : ∀ H' t, Same H H' → SqT K H' t (xs ++ ys) → Q (.ref t) H') : rCatA K (.ref a) (.ref b) H Q := by
  refine ⟨a, b, xs, ys, rfl, rfl, h, k, len, fun e => q H b (Same.refl H) (by rw [e]; exact k), fun _ e => q H a (Same.refl H) (by rw [e, List.append_nil]; exact h), fun _ _ p hp => q _ p (sameN hp) (.inl (.inl upd_same))⟩
theorem ncAll_app {t : Nat} (xs ys : List PyData) : ncAll t (xs ++ ys) = (ncAll t xs && ncAll t ys) := by
  induction xs with
  | nil => simp [ncAll]
  | cons x r ih => simp [ncAll, ih, Bool.and_assoc]
theorem depthAll_app (xs ys : List PyData) : PyData.depthAll (xs ++ ys) = max (PyData.depthAll xs) (PyData.depthAll ys) := by
  induction xs with
  | nil => simp [PyData.depthAll]
  | cons x r ih =>
    simp only [List.cons_append, PyData.depthAll, ih]
    omega
theorem bulkAll_app (xs ys : List PyData) : PyData.bulkAll (xs ++ ys) = PyData.bulkAll xs + PyData.bulkAll ys := by
  induction xs with
  | nil => simp [PyData.bulkAll]
  | cons x r ih =>
    simp only [List.cons_append, PyData.bulkAll, ih]
    omega
theorem bulk_len : ∀ ds : List PyData, ds.length ≤ PyData.bulkAll ds
  | [] => Nat.zero_le _
  | x :: r => by
    have := bulk_len r
    simp only [List.length_cons, PyData.bulkAll]
    omega
theorem ncAll_rev {t : Nat} {xs : List PyData} (h : ncAll t xs = true) : ncAll t xs.reverse = true := ncAll_mem.mpr fun d hd => ncAll_mem.mp h d (List.mem_reverse.mp hd)
theorem depthAll_rev (xs : List PyData) : PyData.depthAll xs.reverse = PyData.depthAll xs := by
  induction xs with
  | nil => rfl
  | cons x r ih =>
    rw [List.reverse_cons, depthAll_app, ih]
    simp only [PyData.depthAll]
    omega
theorem bulkAll_rev (xs : List PyData) : PyData.bulkAll xs.reverse = PyData.bulkAll xs := by
  induction xs with
  | nil => rfl
  | cons x r ih =>
    rw [List.reverse_cons, bulkAll_app, ih]
    simp only [PyData.bulkAll]
    omega
/-- d' is what bending d may give -/
def bn (t : Nat) (d d' : PyData) : Prop := nc (t + 1) d' = true ∧ d'.depth ≤ d.depth + 14 ∧ d'.bulk ≤ 2 * d.bulk + 200
theorem split_at {α : Type} {l : List α} {i : Nat} {x : α} (h : l[i]? = some x) : l = l.take i ++ [x] ++ l.drop (i + 1) := by
  have e := take_more h
  rw [← e, List.take_append_drop]
theorem bn_put {t n : Nat} {ds : List PyData} {x y : PyData} (h : nc t (.tuple ds) = true) (hx : ds[n]? = some x) (b : bn t x y) : bn t (.tuple ds) (.tuple (ds.take n ++ [y] ++ ds.drop (n + 1))) := by
  obtain ⟨b1, b2, b3⟩ := b
  have e := split_at hx
  have h' := nc_up (Nat.le_succ t) _ h
  rw [nc] at h'
  rw [e, ncAll_app, ncAll_app, Bool.and_eq_true, Bool.and_eq_true] at h'
  have e1 : PyData.depthAll ds = PyData.depthAll (ds.take n ++ [x] ++ ds.drop (n + 1)) := by rw [← e]
  have e2 : PyData.bulkAll ds = PyData.bulkAll (ds.take n ++ [x] ++ ds.drop (n + 1)) := by rw [← e]
  rw [depthAll_app, depthAll_app] at e1
  rw [bulkAll_app, bulkAll_app] at e2
  simp only [PyData.depthAll, PyData.bulkAll] at e1 e2
  refine ⟨?_, ?_, ?_⟩
  · rw [nc, ncAll_app, ncAll_app, h'.1.1, h'.2]
    simp [ncAll, b1]
  · simp only [PyData.depth]
    rw [depthAll_app, depthAll_app]
    simp only [PyData.depthAll]
    omega
  · simp only [PyData.bulk]
    rw [bulkAll_app, bulkAll_app]
    simp only [PyData.bulkAll]
    omega
theorem bn_less {t n : Nat} {ds : List PyData} {x : PyData} (h : nc t (.tuple ds) = true) (hx : ds[n]? = some x) : bn t (.tuple ds) (.tuple (ds.take n ++ ds.drop (n + 1))) := by
  have e := split_at hx
  have h' := nc_up (Nat.le_succ t) _ h
  rw [nc] at h'
  rw [e, ncAll_app, ncAll_app, Bool.and_eq_true, Bool.and_eq_true] at h'
  have e1 : PyData.depthAll ds = PyData.depthAll (ds.take n ++ [x] ++ ds.drop (n + 1)) := by rw [← e]
  have e2 : PyData.bulkAll ds = PyData.bulkAll (ds.take n ++ [x] ++ ds.drop (n + 1)) := by rw [← e]
  rw [depthAll_app, depthAll_app] at e1
  rw [bulkAll_app, bulkAll_app] at e2
  simp only [PyData.depthAll, PyData.bulkAll] at e1 e2
  refine ⟨?_, ?_, ?_⟩
  · rw [nc, ncAll_app, h'.1.1, h'.2]
    rfl
  · simp only [PyData.depth]
    rw [depthAll_app]
    omega
  · simp only [PyData.bulk]
    rw [bulkAll_app]
    omega
theorem bn_twice {t n : Nat} {ds : List PyData} {x : PyData} (h : nc t (.tuple ds) = true) (hx : ds[n]? = some x) : bn t (.tuple ds) (.tuple (ds.take n ++ [x] ++ ds.drop n)) := by
  have e := split_at hx
  have h' := nc_up (Nat.le_succ t) _ h
  have h2 := h'
  rw [nc] at h' h2
  rw [← List.take_append_drop n ds, ncAll_app, Bool.and_eq_true] at h2
  rw [e, ncAll_app, ncAll_app, Bool.and_eq_true, Bool.and_eq_true] at h'
  have e1 : PyData.depthAll ds = PyData.depthAll (ds.take n ++ [x] ++ ds.drop (n + 1)) := by rw [← e]
  have e2 : PyData.bulkAll ds = PyData.bulkAll (ds.take n ++ [x] ++ ds.drop (n + 1)) := by rw [← e]
  have f1 : PyData.depthAll ds = PyData.depthAll (ds.take n ++ ds.drop n) := by rw [List.take_append_drop]
  have f2 : PyData.bulkAll ds = PyData.bulkAll (ds.take n ++ ds.drop n) := by rw [List.take_append_drop]
  rw [depthAll_app, depthAll_app] at e1
  rw [bulkAll_app, bulkAll_app] at e2
  rw [depthAll_app] at f1
  rw [bulkAll_app] at f2
  simp only [PyData.depthAll, PyData.bulkAll] at e1 e2
  refine ⟨?_, ?_, ?_⟩
  · rw [nc, ncAll_app, ncAll_app, h'.1.1, h'.1.2, h2.2]
    rfl
  · simp only [PyData.depth]
    rw [depthAll_app, depthAll_app]
    simp only [PyData.depthAll]
    omega
  · simp only [PyData.bulk]
    rw [bulkAll_app, bulkAll_app]
    simp only [PyData.bulkAll]
    omega
theorem bn_one {t : Nat} {d : PyData} (h : nc t d = true) : bn t d (.tuple [d]) := by
  refine ⟨?_, ?_, ?_⟩
  · rw [nc, ncAll, ncAll, nc_up (Nat.le_succ t) d h]
    rfl
  · simp only [PyData.depth, PyData.depthAll]
    omega
  · simp only [PyData.bulk, PyData.bulkAll]
    omega
theorem bn_alike {t : Nat} {ds es : List PyData} (h : nc t (.tuple ds) = true) (he : es = ds ∨ es = ds.reverse) : bn t (.tuple ds) (.tuple es) ∧ bn t (.tuple ds) (.list es) := by
  have h' := nc_up (Nat.le_succ t) _ h
  rw [nc] at h'
  have k1 : ncAll (t + 1) es = true := by
    rcases he with rfl | rfl
    · exact h'
    · exact ncAll_rev h'
  have k2 : PyData.depthAll es = PyData.depthAll ds := by
    rcases he with rfl | rfl
    · rfl
    · exact depthAll_rev ds
  have k3 : PyData.bulkAll es = PyData.bulkAll ds := by
    rcases he with rfl | rfl
    · rfl
    · exact bulkAll_rev ds
  refine ⟨⟨?_, ?_, ?_⟩, ?_, ?_, ?_⟩
  · rw [nc]; exact k1
  · simp only [PyData.depth]; omega
  · simp only [PyData.bulk]; omega
  · rw [nc]; exact k1
  · simp only [PyData.depth]; omega
  · simp only [PyData.bulk]; omega
theorem sgs_of (s : String) : (Str.ofString s).cps.toList.all (fun c => decide (c < 16 ^ 8)) = true := by
  rw [PySem.Str.ofString_eq_toList]
  refine List.all_eq_true.mpr fun c hc => ?_
  have hc' : c ∈ s.toList.map Char.toNat := by simpa using hc
  obtain ⟨x, _, rfl⟩ := List.mem_map.mp hc'
  exact decide_eq_true x.val.toNat_lt
/-- the number that d is -/
def numD : PyData → Int
  | .int i => i
  | .bool b => if b = true then 1 else 0
  | _ => 0
def textD : PyData → Str
  | .int i => toString i
  | .bool b => if b then "True" else "False"
  | _ => ""
theorem num_nc {t : Nat} {d : PyData} (h : nc t d = true) (e : isIntD d = true) : (numD d).natAbs ≤ (t + 1) * 10 ^ 60 := by
  cases d with
  | int i =>
    rw [nc] at h
    exact of_decide_eq_true h
  | bool b =>
    refine Nat.le_trans (m := 1) ?_ (Nat.le_trans (show 1 ≤ 1 * 10 ^ 60 by decide) (Nat.mul_le_mul_right _ (by omega)))
    cases b <;> decide
  | _ => cases e
theorem bn_atom {t : Nat} {d : PyData} {x : PyData} (h : nc (t + 1) x = true) (h1 : x.depth ≤ 14) (h2 : x.bulk ≤ 200) : bn t d x := ⟨h, by omega, by omega⟩
theorem nc_int {t : Nat} {i : Int} (h : i.natAbs ≤ (t + 1) * 10 ^ 60) : nc t (.int i) = true := by
  rw [nc]
  exact decide_eq_true h
theorem bn_int {t : Nat} {d : PyData} {i : Int} (h : i.natAbs ≤ (t + 1 + 1) * 10 ^ 60) : bn t d (.int i) := bn_atom (nc_int h) (by simp [PyData.depth]) (by simp [PyData.bulk])
theorem bn_str {t : Nat} {d : PyData} {x : Str} (h : x.length ≤ 71 + t) (ht : t ≤ 3) (k : x.cps.toList.all (fun c => decide (c < 16 ^ 8)) = true) : bn t d (.str x) := by
  refine bn_atom ?_ (by simp [PyData.depth]) ?_
  · rw [nc, k, Bool.and_true]
    exact decide_eq_true (by omega)
  · simp only [PyData.bulk]
    have : x.cps.size = x.length := rfl
    omega
theorem bn_ints {t : Nat} {d : PyData} (ht : t ≤ 3) (h : nc t d = true) (e : isIntD d = true) (b : Bool) : ∀ x ∈ [PyData.int (numD d + 1), .int (numD d - 1), .int (numD d + (10 : Int) ^ (60 : Int).toNat), .bool b, .str (textD d), .tuple [d], .int 2], bn t d x := by
  have l := num_nc h e
  have e60 : (10 : Int) ^ (60 : Int).toNat = ((10 ^ 60 : Nat) : Int) := by decide +kernel
  have m : (t + 1 + 1) * 10 ^ 60 = (t + 1) * 10 ^ 60 + 10 ^ 60 := Nat.succ_mul _ _
  have big : 2 ≤ 10 ^ 60 := by decide
  rw [e60]
  generalize hB : (10 : Nat) ^ 60 = B at *
  intro x hx
  simp only [List.mem_cons, List.not_mem_nil, or_false] at hx
  rcases hx with rfl | rfl | rfl | rfl | rfl | rfl | rfl
  · exact bn_int (by rw [hB]; omega)
  · exact bn_int (by rw [hB]; omega)
  · exact bn_int (by rw [hB]; omega)
  · exact bn_atom (by rw [nc]) (by simp [PyData.depth]) (by simp [PyData.bulk])
  · cases d with
    | int i =>
      rw [nc] at h
      obtain ⟨h1, h2⟩ := log_of_nc (by omega) (of_decide_eq_true h)
      have e := int_text_length_le10 (k := 62) (by decide) h1
      refine bn_str ?_ ht (sgs_of _)
      show (Str.ofString (toString i)).length ≤ _
      rw [PySem.ofString_length]
      omega
    | bool b =>
      cases b
      · exact bn_str (Nat.le_trans (show Str.length (Str.ofString "False") ≤ 71 by decide) (by omega)) ht (sgs_of _)
      · exact bn_str (Nat.le_trans (show Str.length (Str.ofString "True") ≤ 71 by decide) (by omega)) ht (sgs_of _)
    | _ => cases e
  · exact bn_one h
  · exact bn_int (by rw [hB]; show 2 ≤ _; omega)
theorem app_all {x y : Str} (h : x.cps.toList.all (fun c => decide (c < 16 ^ 8)) = true) (k : y.cps.toList.all (fun c => decide (c < 16 ^ 8)) = true) : (x ++ y).cps.toList.all (fun c => decide (c < 16 ^ 8)) = true := by
  show (x.cps ++ y.cps).toList.all _ = true
  rw [Array.toList_append, List.all_append, h, k]
  rfl
theorem cut_all {x : Str} {a b : Option Int} (h : x.cps.toList.all (fun c => decide (c < 16 ^ 8)) = true) : (cutS x a b).cps.toList.all (fun c => decide (c < 16 ^ 8)) = true := by
  refine List.all_eq_true.mpr fun c hc => List.all_eq_true.mp h c ?_
  have hc' : c ∈ (x.cps.toList.drop (HT.sIx x.length 0 a)).take (HT.sIx x.length x.length b - HT.sIx x.length 0 a) := hc
  exact List.mem_of_mem_drop (List.mem_of_mem_take hc')
theorem bn_strs {t : Nat} {x : Str} (ht : t ≤ 3) (h : nc t (.str x) = true) : ∀ y ∈ [PyData.str "run", .str "block", .str (x ++ "s"), .str (cutS x (some 1) none), .int 0], bn t (.str x) y := by
  rw [nc, Bool.and_eq_true] at h
  have l := of_decide_eq_true h.1
  intro y hy
  simp only [List.mem_cons, List.not_mem_nil, or_false] at hy
  rcases hy with rfl | rfl | rfl | rfl | rfl
  · exact bn_str (Nat.le_trans (show Str.length (Str.ofString "run") ≤ 71 by decide) (by omega)) ht (sgs_of _)
  · exact bn_str (Nat.le_trans (show Str.length (Str.ofString "block") ≤ 71 by decide) (by omega)) ht (sgs_of _)
  · refine bn_str ?_ ht (app_all h.2 (sgs_of _))
    rw [strLen_append]
    have : Str.length (Str.ofString "s") = 1 := by decide
    show x.length + Str.length (Str.ofString "s") ≤ _
    omega
  · exact bn_str (Nat.le_trans (cutS_length _ _ _) (by omega)) ht (cut_all h.2)
  · exact bn_int (Nat.zero_le _)
end
end C01

set_option Elab.async false
set_option linter.all false
set_option maxRecDepth 100000
namespace C01
open PySem PySem.Spec PyProof.Rows L2 Loc RZ
section
variable {P : Program} {w : World} {K : PySem.W.Frag} {mg : Str → Option Value} {base : Heap}
/-- of data nested less than m times -/
def spBent (K : PySem.W.Frag) (m : Nat) : Sp := fun vs H Q _ => ∃ (p : Addr) (S : Addr → Prop) (v : V) (d : PyData) (t c : Nat), vs = [.ref p, v] ∧ S p ∧ Kp S H ∧ Dq K (wo S H) v d ∧ t ≤ 3 ∧ nc t d = true ∧ d.depth < m ∧ d.bulk ≤ 100000 ∧ Pot H p c ∧ c + 4 * m < 850000 ∧
  ∀ v' d' H', But p H H' → Dq K (wo S H') v' d' → bn t d d' → Pot H' p (c + 4 * m + 70) → Q v' H'
def rOdd (K : PySem.W.Frag) (p : Addr) (H : Hp) (c : Nat) (Q : VK) : Prop := spOdd K [.ref p, .int (9 : Nat)] H Q E0
theorem small_pow' {n : Nat} (h : n ≤ 1000000) : (n : Int) < 2 ^ 1000 := Int.lt_of_le_of_lt (show (n : Int) ≤ 1000000 by omega) (by decide +kernel)
theorem scBent : FnScope ["pot", "thing", "spot", "way"] ["pot", "thing"] (defScope sBent) := ⟨rfl, rfl, rfl, by decide +kernel, rfl, by decide +kernel, by decide +kernel⟩
theorem depth_in {ds : List PyData} {d : PyData} {i : Nat} (h : ds[i]? = some d) : d.depth < (PyData.tuple ds).depth ∧ d.bulk ≤ (PyData.tuple ds).bulk := by
  have e1 : PyData.depthAll ds = PyData.depthAll (ds.take i ++ [d] ++ ds.drop (i + 1)) := by rw [← split_at h]
  have e2 : PyData.bulkAll ds = PyData.bulkAll (ds.take i ++ [d] ++ ds.drop (i + 1)) := by rw [← split_at h]
  rw [depthAll_app, depthAll_app] at e1
  rw [bulkAll_app, bulkAll_app] at e2
  simp only [PyData.depthAll, PyData.bulkAll] at e1 e2
  simp only [PyData.depth, PyData.bulk]
  omega
theorem nc_in {t : Nat} {ds : List PyData} {d : PyData} {i : Nat} (h : nc t (.tuple ds) = true) (e : ds[i]? = some d) : nc t d = true := by
  rw [nc] at h
  exact ncAll_mem.mp h d (List.mem_of_getElem? e)
theorem dq_num {H : Hp} {v : V} {d : PyData} (h : Dq K H v d) (e : isIntD d = true) : isNum v (numD d) := by
  cases h with
  | int i => exact rfl
  | bl b => exact rfl
  | _ => cases e
theorem mq_eq1 {S : Addr → Prop} {σ : L2.St} {H0 : Hp} {i : Nat} {v : V} {d : PyData} (h : σ[i]? = some (some v)) (k : Dq K (wo S H0) v d) (e : isIntD d = true) : MQ K S σ H0 (tOp (rEqD K) (tVar i) (tC (.int 1))) (.bool (PyData.eqv d (.int 1))) := fun H Q s q => by
  have s1 : SeqAt.shaped (.int 1) = true := by unfold SeqAt.shaped; simp [PyData.canLay0, PyData.depth]
  cases k with
  | int j => exact ⟨_, h, .int j, .int 1, .int j, .int 1, by unfold SeqAt.shaped; simp [PyData.canLay0, PyData.depth], s1, q H _ (Same.refl H) (.bl _)⟩
  | bl b => exact ⟨_, h, .bool b, .int 1, .bl b, .int 1, by unfold SeqAt.shaped; simp [PyData.canLay0, PyData.depth], s1, q H _ (Same.refl H) (.bl _)⟩
  | _ => cases e
theorem mq_str {S : Addr → Prop} {σ : L2.St} {H0 : Hp} {i t : Nat} {v : V} {d : PyData} (h : σ[i]? = some (some v)) (k : Dq K (wo S H0) v d) (e : isIntD d = true) (ht : t ≤ 3) (hn : nc t d = true) : MQ K S σ H0 (tCB rStrB (tCons (tVar i) tNil)) (.str (textD d)) := fun H Q s q => by
  cases k with
  | int j =>
    rw [nc] at hn
    exact ⟨_, h, .inl ⟨j, rfl, (log_of_nc (by omega) (of_decide_eq_true hn)).2, q H _ (Same.refl H) (.str _)⟩⟩
  | bl b => exact ⟨_, h, .inr ⟨b, rfl, q H _ (Same.refl H) (.str _)⟩⟩
  | _ => cases e
set_option maxHeartbeats 0 in
theorem ok_bent {f fT fO fD : Addr} {fd dT dO dD : FuncData} (F : Fun K "_law_bent" "_law_bent" sBent f fd) (gF : mg "_law_bent" = some (.ref f)) (bF : Binds K fd ["pot", "thing"] []) (T : Fun K "_law_take" "_law_take" sTake fT dT) (gT : mg "_law_take" = some (.ref fT)) (bT : Binds K dT ["pot", "bound"] [])
    (O : Fun K "_law_of" "_law_of" sOf fO dO) (gO : mg "_law_of" = some (.ref fO)) (bO : Binds K dO ["pot", "some"] []) (D : Fun K "_law_odd" "_law_odd" sOdd fD dD) (gD : mg "_law_odd" = some (.ref fD)) (bD : Binds K dD ["pot", "deep"] [])
    (ml : mg "len" = none) (mr : mg "range" = none) (mi : mg "isinstance" = none) (mt : mg "tuple" = none) (mn : mg "int" = none) (ms : mg "str" = none) (mL : mg "list" = none) : ∀ m : Nat, FnOk P w K mg base CX0 (m + 4) f fd ["pot", "thing"] (spBent K m)
  | 0 => ⟨fun vs H Q E h => by obtain ⟨p, S, v, d, t, c, _, _, _, _, _, _, h, _⟩ := h; exact absurd h (Nat.not_lt_zero _), fun A outer s H args us vs Q E _ _ _ _ h => by obtain ⟨p, S, v, d, t, c, _, _, _, _, _, _, h, _⟩ := h; exact absurd h (Nat.not_lt_zero _)⟩
  | m + 1 => by
    have IH : FnOk P w K mg base CX0 (m + 4) f fd ["pot", "thing"] (spBent K m) := ok_bent F gF bF T gT bT O gO bO D gD bD ml mr mi mt mn ms mL m
    have GT : FnOk P w K mg base CX0 2 fT dT ["pot", "bound"] spTake := ok_take T
    have GO : FnOk P w K mg base CX0 2 fO dO ["pot", "some"] spOf := ok_of O T gT bT ml
    have GD : FnOk P w K mg base CX0 3 fD dD ["pot", "deep"] (spOdd K) := ok_odd D T gT bT O gO bO ml mr
    refine F.ok scBent (fun vs H Q E h => ?_) (fun cdv A outer s H vs Q E hr h => ?_)
    · obtain ⟨p, S, v, d, t, c, rfl, _⟩ := h
      rfl
    · obtain ⟨p, S, v, d, t, c, rfl, hSp, hS, hv, ht, hn, hd, hb, hp, hc, q⟩ := h
      have r2 := hr.mono (j := 2) (by omega)
      have r3 := hr.mono (j := 3) (by omega)
      refine ⟨_, pss_cons (ps_if (PW.pt (pw_and (pt_val (pe_callB call_isi (by rfl) mi PyProof.Rows.boot_isinstance (pa_cons (pv 1) (pa_cons (pe_bltn (v := .ty "tuple") (by rfl) mt PyProof.Rows.boot_tuple rfl) pa_nil))))
            (pw_and (pt_cmpR (op_neT0 hr.units) (pv 1) (pe_tup pa_nil) (nomark _)) (pw_and1 (pt_cmpR op_gt (pe_call GT r2 (by rfl) gT T.kp bT .nil pass0 (pa_cons (pv 0) (pa_cons pe_int pa_nil))) pe_int (nomark _))))))
          (pss_cons (ps_par (i := 2) (j := 3) (by rfl) scBent.nd rfl rfl (by decide) rfl rfl
              (pa_cons (pe_call GT r2 (by rfl) gT T.kp bT .nil pass0 (pa_cons (pv 0) (pa_cons (pe_callB call_len_seq (by rfl) ml PySem.boot_len (pa_cons (pv 1) pa_nil)) pa_nil)))
                (pa_cons (pe_call GT r2 (by rfl) gT T.kp bT .nil pass0 (pa_cons (pv 0) (pa_cons pe_int pa_nil))) pa_nil)) (by rfl))
          (pss_cons (ps_if (pt_cmpR op_lt (pv 3) pe_int (nomark _))
              (pss_one (ps_ret (pe_op op_catA (pe_op op_catA (pe_slice sl_tupA (pv 1) po_none (po_some (pv 2))) (pe_tup (pa_cons (pe_call IH hr (by rfl) gF F.kp bF .nil pass0 (pa_cons (pv 0) (pa_cons (pe_ix ix_tup (pv 1) (pv 2) (fun _ _ => rfl)) pa_nil))) pa_nil)))
                (pe_slice sl_tupA (pv 1) (po_some (pe_op op_add (pv 2) pe_int)) po_none)))) pss_nil)
          (pss_cons (ps_if (pt_cmpR op_eq (pv 3) pe_int (nomark _))
              (pss_one (ps_ret (pe_op op_catA (pe_slice sl_tupA (pv 1) po_none (po_some (pv 2))) (pe_slice sl_tupA (pv 1) (po_some (pe_op op_add (pv 2) pe_int)) po_none)))) pss_nil)
          (pss_cons (ps_if (pt_cmpR op_eq (pv 3) pe_int (nomark _))
              (pss_one (ps_ret (pe_op op_catA (pe_op op_catA (pe_slice sl_tupA (pv 1) po_none (po_some (pv 2))) (pe_tup (pa_cons (pe_ix ix_tup (pv 1) (pv 2) (fun _ _ => rfl)) pa_nil))) (pe_slice sl_tupA (pv 1) (po_some (pv 2)) po_none)))) pss_nil)
          (pss_one (ps_ret (pe_ix ix_list (pe_lst (pa_cons (pe_revT (pv 1) (po_some (pe_un un_neg pe_int))) (pa_cons (pe_callTy call_list_of (by rfl) mL PyProof.Rows.boot_list (pa_cons (pv 1) pa_nil)) (pa_cons (pe_tup (pa_cons (pv 1) pa_nil)) pa_nil))))
            (pe_op op_sub (pv 3) pe_int) (fun _ _ => rfl)))))))) pss_nil)
        (pss_cons (ps_if (PW.pt (pw_and (pt_val (pe_callB call_isi (by rfl) mi PyProof.Rows.boot_isinstance (pa_cons (pv 1) (pa_cons (pe_bltn (v := .ty "int") (by rfl) mn PyProof.Rows.boot_int rfl) pa_nil))))
            (pw_and1 (pt_cmpR op_gt (pe_call GT r2 (by rfl) gT T.kp bT .nil pass0 (pa_cons (pv 0) (pa_cons pe_int pa_nil))) pe_int (nomark _)))))
          (pss_one (ps_ret (pe_call GO r2 (by rfl) gO O.kp bO .nil pass0 (pa_cons (pv 0) (pa_cons (pe_lst (pa_cons (pe_op op_addB (pv 1) pe_int) (pa_cons (pe_op op_subB (pv 1) pe_int) (pa_cons (pe_op op_addB (pv 1) (pe_op op_pow pe_int pe_int))
            (pa_cons (pe_cmpR (op_eqD hr.units) (pv 1) pe_int (nomark _)) (pa_cons (pe_callTy call_strB (by rfl) ms PyProof.Rows.boot_str (pa_cons (pv 1) pa_nil)) (pa_cons (pe_tup (pa_cons (pv 1) pa_nil)) (pa_cons pe_int pa_nil)))))))) pa_nil))))) pss_nil)
        (pss_cons (ps_if (PW.pt (pw_and (pt_val (pe_callB call_isi (by rfl) mi PyProof.Rows.boot_isinstance (pa_cons (pv 1) (pa_cons (pe_bltn (v := .ty "str") (by rfl) ms PyProof.Rows.boot_str rfl) pa_nil))))
            (pw_and1 (pt_cmpR op_gt (pe_call GT r2 (by rfl) gT T.kp bT .nil pass0 (pa_cons (pv 0) (pa_cons pe_int pa_nil))) pe_int (nomark _)))))
          (pss_one (ps_ret (pe_call GO r2 (by rfl) gO O.kp bO .nil pass0 (pa_cons (pv 0) (pa_cons (pe_lst (pa_cons pe_str (pa_cons pe_str (pa_cons (pe_op op_add_str (pv 1) pe_str) (pa_cons (pe_slice sl_str (pv 1) (po_some pe_int) po_none) (pa_cons pe_int pa_nil)))))) pa_nil))))) pss_nil)
        (pss_one (ps_ret (pe_call GD r3 (by rfl) gD D.kp bD .nil pass0 (pa_cons (pv 0) (pa_cons pe_int pa_nil))))))), ?_⟩
      obtain ⟨o0, ho0⟩ := hp.ls
      -- what is returned in the end
      have odd_end : ∀ H1 (c1 : Nat), But p H H1 → Pot H1 p c1 → c1 ≤ c + 4 → rOdd K p H1 c1 (fun v' H' => Q v' H') := fun H1 c1 b1 p1 hc1 => by
        refine ⟨p, S, 9, c1, rfl, by decide, hSp, hS.but b1 p1, p1, by omega, fun v' d' H' b' k' s' p' => q v' d' H' (b1.trans b') k' ?_ (p'.le (by omega))⟩
        exact bn_atom (nc_up (Nat.zero_le _) _ s'.1) (Nat.le_trans s'.2.1 (by decide)) (Nat.le_trans s'.2.2 (by decide))
      refine seq_if (fun b H' => But p H H' ∧ Pot H' p (c + 1) ∧ (b = true → isTupD d = true ∧ d ≠ .tuple [])) (fun R hR => ?_) (fun H1 h1 => ?_) (fun H1 h1 => ?_)
      · refine and_isi (i := 1) (v := v) (H0 := wo S H) rfl wo_same hv (kit_tup d) (fun e => ?_) (fun e => hR _ _ ⟨.refl p H, hp.le (by omega), fun z => nomatch z⟩)
        cases d with
        | tuple ds =>
          obtain ⟨a, vs, rfl, hT, hV⟩ := hv.tupI
          refine ⟨.ref a, rfl, (show 0 ≤ sizeLine from by decide), fun e0 n0 => ⟨a, e0, vs, rfl, rfl, sameT (wo_same.trans (sameN n0)) hT, .inl (.inl upd_same), _, rfl, ?_⟩⟩
          cases hV with
          | nil => exact iteF (hR _ _ ⟨.new n0, (hp.new n0).le (by omega), fun z => nomatch z⟩)
          | cons k1 k2 =>
            refine iteT ⟨.ref p, rfl, p, 5, c, rfl, hp.new n0, by omega, by decide, by decide +kernel, fun x H1 y0 y1 b1 p1 => ⟨x, 0, rfl, rfl, _, rfl, hR _ _ ⟨(But.new n0).trans b1, p1, fun _ => ⟨rfl, fun z => by cases z⟩⟩⟩⟩
        | _ => cases e
      · obtain ⟨b1, p1, h1⟩ := h1
        obtain ⟨h1, h2⟩ := h1 rfl
        cases d with
        | tuple ds =>
          obtain ⟨a, vs, rfl, hT, hV⟩ := hv.tupI
          have lv := hV.len
          have lb := bulk_len ds
          have hb' : PyData.bulkAll ds ≤ 100000 := hb
          have l0 : 0 < vs.length := by
            cases hV with
            | nil => exact absurd rfl h2
            | cons _ _ => exact Nat.succ_pos _
          have T1 : SqT K (wo S H1) a vs := sameT (But.wo hSp b1) hT
          refine ⟨.ref p, rfl, .ref a, rfl, a, vs, rfl, .inr (sameT wo_same T1), p, (vs.length : Int), c + 1, rfl, p1, by omega, by omega, small_pow' (by omega), fun spot H2 y0 y1 b2 p2 => ?_⟩
          obtain ⟨n, rfl⟩ : ∃ n : Nat, spot = n := ⟨spot.toNat, by omega⟩
          have hn' : n < vs.length := by omega
          refine ⟨.ref p, rfl, p, 12, _, rfl, p2, by omega, by decide, by decide +kernel, fun way H3 z0 z1 b3 p3 => ⟨_, _, rfl, ?_⟩⟩
          have b03 := (b1.trans b2).trans b3
          have T3 : SqT K (wo S H3) a vs := sameT (But.wo hSp b03) hT
          have T3' : SqT K H3 a vs := sameT wo_same T3
          have V3 : DqAll K (wo S H3) vs ds := hV.up (But.wo hSp b03)
          obtain ⟨u, hu⟩ := get_of hn'
          obtain ⟨x, hx, ku⟩ := V3.get hu
          obtain ⟨dx, bx⟩ := depth_in hx
          have nx := nc_in hn hx
          have sz : ∀ k : Nat, k ≤ 300000 → k ≤ sizeLine := fun k hk => by rw [sizeLine_eq]; omega
          refine nx_of ?_
          refine seq_if (fun b H' => H3 = H' ∧ b = decide (way < 7)) (fun R hR => ⟨_, rfl, _, _, rfl, rfl, _, rfl, hR _ _ ⟨rfl, rfl⟩⟩) (fun H4 h4 => ?_) (fun H4 h4 => ?_)
          · obtain ⟨h4, _⟩ := h4
            subst h4
            refine ⟨.ref a, rfl, .int n, rfl, _, rfl, slice_to T3' (Nat.le_of_lt hn') fun H4 t4 s4 ht4 => ?_⟩
            refine ⟨.ref p, rfl, .ref a, rfl, _, rfl, a, vs, n, u, rfl, rfl, sameT s4 T3', atI_nat hu, p, S, u, x, t, c + 3, rfl, hSp, (hS.but b03 p3).up s4, ku.up (wo_up s4), ht, nx, by omega, by omega, ?_, by omega, fun v5 d5 H5 b5 k5 bn5 p5 => ⟨(show 1 ≤ sizeLine from by decide), fun t6 n6 => ?_⟩⟩
            · obtain ⟨o', e', r'⟩ := p3
              exact ⟨o', s4 _ _ e', r'.le (by omega)⟩
            obtain ⟨o5, ho5⟩ := p5.ls
            have hp4 : ∃ ys, H4 p = some (.lst ys) := let ⟨ys, e⟩ := p3.ls; ⟨ys, s4 _ _ e⟩
            obtain ⟨o4, ho4⟩ := hp4
            have ht6 : SqT K (upd H5 t6 (.tup [v5])) t4 (vs.take n) := sameT (sameN n6) (b5.sqt ho4 ht4)
            have T6 : SqT K (upd H5 t6 (.tup [v5])) a vs := sameT (sameN n6) (b5.sqt ho4 (sameT s4 T3'))
            refine cat_t ht6 (.inl (.inl upd_same)) (sz _ (by rw [List.length_take]; simp; omega)) fun H7 t7 s7 ht7 => ?_
            refine ⟨.ref a, rfl, .int n, rfl, n, 1, rfl, rfl, _, rfl, ?_⟩
            dsimp only [tNoPart]
            refine slice_fr (n := n + 1) (sameT s7 T6) hn' fun H8 t8 s8 ht8 => ?_
            refine cat_t (sameT s8 ht7) ht8 (sz _ (by rw [List.length_append, List.length_take, List.length_drop]; simp; omega)) fun H9 t9 s9 ht9 => ?_
            have s69 := (s7.trans s8).trans s9
            have s59 := (sameN (o := .tup [v5]) n6).trans s69
            have ho9 := ((((hS.but b03 p3).up s4).but b5 p5).up s59)
            have sA := (Same.but (p := p) s4).trans b5
            have wA := (But.wo hSp sA).trans (wo_up s59)
            exact q _ _ H9 ((b03.trans sA).trans (Same.but s59)) (.tup (sqt_wo ho9 ht9) (((V3.up wA).take n |>.app (.cons (k5.up (wo_up s59)) .nil)).app ((V3.up wA).drop (n + 1)))) (bn_put hn hx bn5) (by
              obtain ⟨o', e', r'⟩ := p5
              exact ⟨o', s59 _ _ e', r'.le (by omega)⟩)
          · obtain ⟨h4, w7⟩ := h4
            subst h4
            refine seq_if (fun b H' => H3 = H' ∧ b = decide (V.int way = V.int 7)) (fun R hR => ⟨_, rfl, rfl, _, rfl, hR _ _ ⟨rfl, rfl⟩⟩) (fun H4 h4 => ?_) (fun H4 h4 => ?_)
            · obtain ⟨h4, _⟩ := h4
              subst h4
              refine ⟨.ref a, rfl, .int n, rfl, _, rfl, slice_to T3' (Nat.le_of_lt hn') fun H4 t4 s4 ht4 => ?_⟩
              refine ⟨.ref a, rfl, .int n, rfl, n, 1, rfl, rfl, _, rfl, ?_⟩
              dsimp only [tNoPart]
              refine slice_fr (n := n + 1) (sameT s4 T3') hn' fun H8 t8 s8 ht8 => ?_
              refine cat_t (sameT s8 ht4) ht8 (sz _ (by rw [List.length_take, List.length_drop]; omega)) fun H9 t9 s9 ht9 => ?_
              have s39 := (s4.trans s8).trans s9
              obtain ⟨o3, ho3⟩ := p3.ls
              exact q _ _ H9 (b03.trans (Same.but s39)) (.tup (sqt_wo ((hS.but b03 p3).up s39) ht9) (((V3.up (wo_up s39)).take n).app ((V3.up (wo_up s39)).drop (n + 1)))) (bn_less hn hx) (by
                obtain ⟨o', e', r'⟩ := p3
                exact ⟨o', s39 _ _ e', r'.le (by omega)⟩)
            · obtain ⟨h4, n7⟩ := h4
              subst h4
              refine seq_if (fun b H' => H3 = H' ∧ b = decide (V.int way = V.int 8)) (fun R hR => ⟨_, rfl, rfl, _, rfl, hR _ _ ⟨rfl, rfl⟩⟩) (fun H4 h4 => ?_) (fun H4 h4 => ?_)
              · obtain ⟨h4, _⟩ := h4
                subst h4
                refine ⟨.ref a, rfl, .int n, rfl, _, rfl, slice_to T3' (Nat.le_of_lt hn') fun H4 t4 s4 ht4 => ?_⟩
                refine ⟨.ref a, rfl, _, rfl, a, vs, n, u, rfl, rfl, sameT s4 T3', atI_nat hu, (show 1 ≤ sizeLine from by decide), fun t6 n6 => ?_⟩
                refine cat_t (sameT (sameN n6) ht4) (.inl (.inl upd_same)) (sz _ (by rw [List.length_take]; simp; omega)) fun H7 t7 s7 ht7 => ?_
                have s37 := (s4.trans (sameN (o := .tup [u]) n6)).trans s7
                refine ⟨.ref a, rfl, .int n, rfl, _, rfl, ?_⟩
                dsimp only [tNoPart]
                refine slice_fr (n := n) (sameT s37 T3') (Nat.le_of_lt hn') fun H8 t8 s8 ht8 => ?_
                refine cat_t (sameT s8 ht7) ht8 (sz _ (by rw [List.length_append, List.length_take, List.length_drop]; simp; omega)) fun H9 t9 s9 ht9 => ?_
                have s39 := (s37.trans s8).trans s9
                obtain ⟨o3, ho3⟩ := p3.ls
                exact q _ _ H9 (b03.trans (Same.but s39)) (.tup (sqt_wo ((hS.but b03 p3).up s39) ht9) ((((V3.up (wo_up s39)).take n).app (.cons (ku.up (wo_up s39)) .nil)).app ((V3.up (wo_up s39)).drop n))) (bn_twice hn hx) (by
                  obtain ⟨o', e', r'⟩ := p3
                  exact ⟨o', s39 _ _ e', r'.le (by omega)⟩)
              · obtain ⟨h4, n8⟩ := h4
                subst h4
                have w7' : 7 ≤ way := by
                  have := of_decide_eq_false w7.symm
                  omega
                have n7' : way ≠ 7 := fun z => by rw [z] at n7; simp at n7
                have n8' : way ≠ 8 := fun z => by rw [z] at n8; simp at n8
                have w12 : way < 12 := z1
                refine ⟨.ref a, rfl, _, rfl, _, rfl, rfl, a, vs, rfl, T3', fun t4 n4 => ?_⟩
                refine ⟨.ref a, rfl, a, vs, rfl, .inr (sameT (sameN n4) T3'), fun t5 n5 => ?_⟩
                refine ⟨.ref a, rfl, (show 1 ≤ sizeLine from by decide), fun t6 n6 => ?_⟩
                refine ⟨(show 3 ≤ sizeLine from by decide), fun t7 n7 => ?_⟩
                obtain ⟨o3, ho3⟩ := p3.ls
                have s37 := (((sameN (o := .tup vs.reverse) n4).trans (sameN (o := .lst vs) n5)).trans (sameN (o := .tup [.ref a]) n6)).trans (sameN (o := .lst [.ref t4, .ref t5, .ref t6]) n7)
                have ho7 := (hS.but b03 p3).up s37
                have e4 := ((sameN (o := .lst vs) n5).trans (sameN (o := .tup [.ref a]) n6)).trans (sameN (o := .lst [.ref t4, .ref t5, .ref t6]) n7) _ _ (upd_same (a := t4) (H := H3) (o := .tup vs.reverse))
                have e5 := ((sameN (o := .tup [.ref a]) n6).trans (sameN (o := .lst [.ref t4, .ref t5, .ref t6]) n7)) _ _ (upd_same (a := t5) (o := .lst vs))
                have e6 := (sameN (o := .lst [.ref t4, .ref t5, .ref t6]) n7) _ _ (upd_same (a := t6) (o := .tup [.ref a]))
                have ne5 : ¬ S t5 := ((hS.but b03 p3).up (sameN (o := .tup vs.reverse) n4)).new n5
                have V7 := V3.up (wo_up s37)
                have p7 : Pot (upd (upd (upd (upd H3 t4 (.tup vs.reverse)) t5 (.lst vs)) t6 (.tup [.ref a])) t7 (.lst [.ref t4, .ref t5, .ref t6])) p (c + 4 * (m + 1) + 70) := by
                  obtain ⟨o', e', r'⟩ := p3
                  exact ⟨o', s37 _ _ e', r'.le (by omega)⟩
                have b07 := b03.trans (Same.but (p := p) s37)
                refine ⟨_, rfl, way, 9, rfl, rfl, ?_⟩
                have hw : way = 9 ∨ way = 10 ∨ way = 11 := by omega
                rcases hw with rfl | rfl | rfl
                · exact ⟨t7, _, 0, .ref t4, rfl, rfl, .inl (.inl upd_same), rfl, q _ _ _ b07 (.tup (sqt_wo ho7 (.inl (.inl e4))) V7.rev) (bn_alike hn (.inr rfl)).1 p7⟩
                · exact ⟨t7, _, 1, .ref t5, rfl, rfl, .inl (.inl upd_same), rfl, q _ _ _ b07 (.lst (.inl (.inl (by rw [wo_ne ne5]; exact e5))) V7) (bn_alike hn (.inl rfl)).2 p7⟩
                · exact ⟨t7, _, 2, .ref t6, rfl, rfl, .inl (.inl upd_same), rfl, q _ _ _ b07 (.tup (sqt_wo ho7 (.inl (.inl e6))) (.cons (.tup (sqt_wo ho7 (sameT s37 T3')) V7) .nil)) (bn_one hn) p7⟩
        | _ => cases h1
      · obtain ⟨b1, p1, _⟩ := h1
        have hv1 := hv.up (But.wo hSp b1)
        refine seq_if (fun b H' => But p H1 H' ∧ Pot H' p (c + 2) ∧ (b = true → isIntD d = true)) (fun R hR => ?_) (fun H2 h2 => ?_) (fun H2 h2 => ?_)
        · refine and_isi (i := 1) (v := v) (H0 := wo S H1) rfl wo_same hv1 (kit_int d) (fun e => ?_) (fun e => hR _ _ ⟨.refl p H1, p1.le (by omega), fun z => nomatch z⟩)
          exact ⟨.ref p, rfl, p, 3, c + 1, rfl, p1, by omega, by decide, by decide +kernel, fun x H2 y0 y1 b2 p2 => ⟨x, 0, rfl, rfl, _, rfl, hR _ _ ⟨b2, p2, fun _ => e⟩⟩⟩
        · obtain ⟨b2, p2, h2⟩ := h2
          have h2 := h2 rfl
          have hv2 := hv1.up (But.wo hSp b2)
          have ho2 := hS.but (b1.trans b2) p2
          have num := dq_num hv2 h2
          refine ⟨.ref p, rfl, ?_⟩
          refine lst_new (K := K) (ds := [.int (numD d + 1), .int (numD d - 1), .int (numD d + (10 : Int) ^ (60 : Int).toNat), .bool (PyData.eqv d (.int 1)), .str (textD d), .tuple [d], .int 2]) ho2 ?mq (show 7 ≤ 1000 by decide) fun H3 a3 vs3 s3 n3 e3 k3 ne3 => ?_
          case mq =>
            exact MQs.cons (.ofInt fun H Q q => ⟨v, rfl, _, 1, num, rfl, q⟩) (.cons (.ofInt fun H Q q => ⟨v, rfl, _, 1, num, rfl, q⟩) (.cons (.ofInt fun H Q q => ⟨v, rfl, 10, 60, rfl, rfl, ⟨by decide, by decide, by decide⟩, _, _, num, rfl, q⟩)
              (.cons (mq_eq1 rfl hv2 h2) (.cons (mq_str rfl hv2 h2 ht hn) (.cons (.tup ho2 (.cons (.v rfl hv2) .nil) (show 1 ≤ 1000 by decide)) (.cons (.int _) .nil))))))
          have l3 : vs3.length = 7 := k3.len
          have p3 : Pot H3 p (c + 2) := by
            obtain ⟨o', e', r'⟩ := p2
            exact ⟨o', s3 _ _ e', r'⟩
          refine ⟨p, a3, vs3, _, rfl, p3, by omega, (fun z => ne3 (by rw [z]; exact hSp)), e3, (fun z => by rw [z] at l3; cases l3), (by rw [l3]; decide), fun j x H4 hj b4 p4 => ?_⟩
          obtain ⟨d4, hd4, hx4⟩ := k3.get hj
          exact q x d4 H4 ((b1.trans b2).trans ((Same.but s3).trans b4)) (hx4.up (But.wo hSp b4)) (bn_ints ht hn h2 _ d4 (List.mem_of_getElem? hd4)) (p4.le (by omega))
        · obtain ⟨b2, p2, _⟩ := h2
          have hv2 := hv1.up (But.wo hSp b2)
          refine seq_if (fun b H' => But p H2 H' ∧ Pot H' p (c + 3) ∧ (b = true → isStrD d = true)) (fun R hR => ?_) (fun H3 h3 => ?_) (fun H3 h3 => ?_)
          · refine and_isi (i := 1) (v := v) (H0 := wo S H2) rfl wo_same hv2 (kit_str d) (fun e => ?_) (fun e => hR _ _ ⟨.refl p H2, p2.le (by omega), fun z => nomatch z⟩)
            exact ⟨.ref p, rfl, p, 3, c + 2, rfl, p2, by omega, by decide, by decide +kernel, fun x H2 y0 y1 b2 p2 => ⟨x, 0, rfl, rfl, _, rfl, hR _ _ ⟨b2, p2, fun _ => e⟩⟩⟩
          · obtain ⟨b3, p3, h3⟩ := h3
            have h3 := h3 rfl
            have hv3 := hv2.up (But.wo hSp b3)
            have ho3 := hS.but ((b1.trans b2).trans b3) p3
            cases d with
            | str x =>
              cases hv3
              have hn' := hn
              rw [nc, Bool.and_eq_true] at hn'
              have lx := of_decide_eq_true hn'.1
              have lsx : x.length + Str.length (Str.ofString "s") ≤ sizeLine := by
                have e1 : Str.length (Str.ofString "s") = 1 := by decide
                rw [e1, sizeLine_eq]
                omega
              refine ⟨.ref p, rfl, ?_⟩
              refine lst_new (K := K) (ds := [.str "run", .str "block", .str (x ++ "s"), .str (cutS x (some 1) none), .int 0]) ho3 ?mq2 (show 5 ≤ 1000 by decide) fun H4 a4 vs4 s4 n4 e4 k4 ne4 => ?_
              case mq2 =>
                exact MQs.cons (.str _) (.cons (.str _) (.cons (fun H Q s q => ⟨.str x, rfl, x, "s", rfl, rfl, lsx, q H _ (Same.refl H) (.str _)⟩)
                  (.cons (fun H Q s q => ⟨.str x, rfl, 1, rfl, x, rfl, small_line (by omega), q H _ (Same.refl H) (.str _)⟩) (.cons (.int _) .nil))))
              have l4 : vs4.length = 5 := k4.len
              have p4 : Pot H4 p (c + 3) := by
                obtain ⟨o', e', r'⟩ := p3
                exact ⟨o', s4 _ _ e', r'⟩
              refine ⟨p, a4, vs4, _, rfl, p4, by omega, (fun z => ne4 (by rw [z]; exact hSp)), e4, (fun z => by rw [z] at l4; cases l4), (by rw [l4]; decide), fun j y H5 hj b5 p5 => ?_⟩
              obtain ⟨d5, hd5, hx5⟩ := k4.get hj
              exact q y d5 H5 (((b1.trans b2).trans b3).trans ((Same.but s4).trans b5)) (hx5.up (But.wo hSp b5)) (bn_strs ht hn d5 (List.mem_of_getElem? hd5)) (p5.le (by omega))
            | _ => cases h3
          · obtain ⟨b3, p3, _⟩ := h3
            exact ⟨.ref p, rfl, odd_end H3 (c + 3) ((b1.trans b2).trans b3) p3 (by omega)⟩
end
end C01

set_option Elab.async false
set_option linter.all false
set_option maxRecDepth 100000
namespace C01
open PySem PySem.Spec PyProof.Rows L2 Loc RZ
section
variable {P : Program} {w : World} {K : PySem.W.Frag} {mg : Str → Option Value} {base : Heap} {S : Addr → Prop} {σ : L2.St} {H0 : Hp}
theorem slice_md {H : Hp} {a : Addr} {xs : List V} {b e : Nat} {Q : VK} (h : SqT K H a xs) (h1 : b ≤ e) (h2 : e ≤ xs.length) (q : ∀ H' t, Same H H' → SqT K H' t ((xs.take e).drop b) → Q (.ref t) H') : rSlA K (.ref a) (some (b : Int)) (some (e : Int)) H Q := by
  refine ⟨a, xs, rfl, h, fun hw => ?_, fun hw p hp => q _ p (sameN hp) (.inl (.inl ?_))⟩
  · rw [HT.sIx_nat, HT.sIx_nat] at hw
    have e1 : b = 0 := by omega
    have e2 : e = xs.length := by omega
    subst e1 e2
    refine q H a (Same.refl H) ?_
    rw [List.take_length]
    exact h
  · rw [upd_same]
    unfold cutV
    rw [HT.sIx_nat, HT.sIx_nat, Nat.min_eq_left h2, Nat.min_eq_left (Nat.le_trans h1 h2), List.drop_take]
theorem MQ.cat {ta tb : TE} {ds es : List PyData} (hS : Kp S H0) (h : MQ K S σ H0 ta (.tuple ds)) (k : MQ K S σ H0 tb (.tuple es)) (l : ds.length + es.length ≤ 5000) : MQ K S σ H0 (tOp (rCatA K) ta tb) (.tuple (ds ++ es)) := fun H Q s q =>
  h H _ s fun H1 v s1 hd => k H1 _ (s.trans s1) fun H2 u s2 he => by
    obtain ⟨a, vs, rfl, ht, hv⟩ := Dq.tupI hd
    obtain ⟨b, us, rfl, hu, hw⟩ := Dq.tupI he
    exact cat_t (sameT wo_same (sameT (wo_up s2) ht)) (sameT wo_same hu) (by rw [DqAll.len hv, DqAll.len hw]; exact Nat.le_trans l (by decide)) fun H3 t s3 ht3 => q _ _ ((s1.trans s2).trans s3)
      (.tup (sqt_wo (hS.up (s.trans ((s1.trans s2).trans s3))) ht3) (DqAll.app ((hv.up (wo_up s2)).up (wo_up s3)) (hw.up (wo_up s3))))
theorem MQ.slTo {te : TE} {ds : List PyData} (hS : Kp S H0) (n : Nat) (h : MQ K S σ H0 te (.tuple ds)) (l : n ≤ ds.length) : MQ K S σ H0 (tSl (rSlA K) te tNoPart (tPart (tC (.int (n : Nat))))) (.tuple (ds.take n)) := fun H Q s q =>
  h H _ s fun H1 v s1 hd => by
    obtain ⟨a, vs, rfl, ht, hv⟩ := Dq.tupI hd
    exact ⟨_, rfl, slice_to (sameT wo_same ht) (by rw [hv.len]; exact l) fun H2 t s2 ht2 => q _ _ (s1.trans s2) (.tup (sqt_wo (hS.up (s.trans (s1.trans s2))) ht2) ((hv.up (wo_up s2)).take n))⟩
theorem MQ.slFr {te : TE} {ds : List PyData} (hS : Kp S H0) (n : Nat) (h : MQ K S σ H0 te (.tuple ds)) (l : n ≤ ds.length) : MQ K S σ H0 (tSl (rSlA K) te (tPart (tC (.int (n : Nat)))) tNoPart) (.tuple (ds.drop n)) := fun H Q s q =>
  h H _ s fun H1 v s1 hd => by
    obtain ⟨a, vs, rfl, ht, hv⟩ := Dq.tupI hd
    refine ⟨_, rfl, ?_⟩
    dsimp only [tNoPart]
    exact slice_fr (sameT wo_same ht) (by rw [hv.len]; exact l) fun H2 t s2 ht2 => q _ _ (s1.trans s2) (.tup (sqt_wo (hS.up (s.trans (s1.trans s2))) ht2) ((hv.up (wo_up s2)).drop n))
theorem MQ.slMd {te : TE} {ds : List PyData} (hS : Kp S H0) (b e : Nat) (h : MQ K S σ H0 te (.tuple ds)) (l1 : b ≤ e) (l : e ≤ ds.length) : MQ K S σ H0 (tSl (rSlA K) te (tPart (tC (.int (b : Nat)))) (tPart (tC (.int (e : Nat))))) (.tuple ((ds.take e).drop b)) := fun H Q s q =>
  h H _ s fun H1 v s1 hd => by
    obtain ⟨a, vs, rfl, ht, hv⟩ := Dq.tupI hd
    exact ⟨_, rfl, _, rfl, slice_md (sameT wo_same ht) l1 (by rw [hv.len]; exact l) fun H2 t s2 ht2 => q _ _ (s1.trans s2) (.tup (sqt_wo (hS.up (s.trans (s1.trans s2))) ht2) (((hv.up (wo_up s2)).take e).drop b))⟩
theorem MQ.ix {te : TE} {ds : List PyData} {d : PyData} (n : Nat) (h : MQ K S σ H0 te (.tuple ds)) (l : ds[n]? = some d) : MQ K S σ H0 (tOp (rIxT K) te (tC (.int (n : Nat)))) d := fun H Q s q =>
  h H _ s fun H1 v s1 hd => by
    obtain ⟨a, vs, rfl, ht, hv⟩ := Dq.tupI hd
    obtain ⟨u, hu, ku⟩ := hv.at l
    exact ⟨a, vs, n, u, rfl, rfl, sameT wo_same ht, atI_nat hu, q _ _ s1 ku⟩
theorem prs_q {H : Hp} (hS : Kp S H) : ∀ {gs : List (Nd × Nat)} {ws : List V}, PrsV K H ws gs → (∀ p ∈ gs, ∃ k : Nat, p.1 = .el k ∧ k ≤ 10 ^ 9) → DqAll K (wo S H) ws (gs.map pdat)
  | [], ws, h, _ => by
    have := h.len
    rw [List.eq_nil_of_length_eq_zero this]
    exact .nil
  | p :: r, ws, h, hp => by
    match ws, h with
    | v :: ws, h =>
      obtain ⟨pr, a, u, e1, e2, t1, t2⟩ := PrsV.get (i := 0) h rfl
      have e1 : p = pr := by simpa using e1
      subst e1
      obtain ⟨k, ek, _⟩ := hp p List.mem_cons_self
      have rest : PrsV K H ws r := by
        cases h with
        | cons _ t => exact t
      rw [e2]
      refine .cons ?_ (prs_q hS rest fun x hx => hp x (List.mem_cons_of_mem _ hx))
      unfold pdat
      refine .tup (sqt_wo hS t1) (.cons ?_ (.cons (.int _) .nil))
      rw [ek] at t2 ⊢
      rw [t2.el]
      exact .int _
    | [], h => exact absurd h.len (by simp)
theorem wo_add {T : Addr → Prop} {L : Addr} {H : Hp} {o : HO} (h : ∀ a, T a → S a ∨ a = L) (n : H L = none) : Same (wo S H) (wo T (upd H L o)) := fun b u e => by
  by_cases z : S b
  · rw [wo_in z] at e
    cases e
  · rw [wo_ne z] at e
    have nb : b ≠ L := fun q => by rw [q, n] at e; cases e
    rw [wo_ne (fun t => (h b t).elim z nb), upd_ne nb]
    exact e
theorem wo_set {T : Addr → Prop} {L : Addr} {H : Hp} {o : HO} (h : T L) : Same (wo T H) (wo T (upd H L o)) := fun b u e => by
  by_cases z : T b
  · rw [wo_in z] at e
    cases e
  · rw [wo_ne z] at e ⊢
    rw [upd_ne (fun q => z (by rw [q]; exact h))]
    exact e
theorem Kp.set {T : Addr → Prop} {L : Addr} {H : Hp} {ys : List V} (k : Kp T H) : Kp T (upd H L (.lst ys)) := fun a h => by
  by_cases e : a = L
  · rw [e]
    exact ⟨ys, upd_same⟩
  · obtain ⟨z, q⟩ := k a h
    exact ⟨z, by rw [upd_ne e]; exact q⟩
end
end C01

set_option Elab.async false
set_option linter.all false
set_option maxRecDepth 100000
namespace C01
open PySem PySem.Spec PyProof.Rows L2 Loc RZ
/-! ### what data is a node -/
section
variable {P : Program} {w : World} {K : PySem.W.Frag} {mg : Str → Option Value} {base : Heap}
def NodeD (d : PyData) : Prop := ∃ n l, Ok n l ∧ dat n = d
theorem dat_inj {a b : Nd} (h : dat a = dat b) : a = b := (eqv_dat a b).mp (by rw [h]; exact SeqAt.eqv_refl _ (canLay_dat b))
theorem ok_lvl : ∀ (n : Nd) {l l' : Nat}, Ok n l → Ok n l' → l = l'
  | .el k, l, l', h, h' => by
    rw [Ok] at h h'
    omega
  | .run b c, l, l', h, h' => by
    rw [Ok] at h h'
    exact ok_lvl b h.2.2.2 h'.2.2.2
  | .blk [], l, l', h, h' => by
    rw [Ok] at h
    exact absurd h.2.1 (by decide)
  | .blk (n :: r), l, l', h, h' => by
    rw [Ok, OkAll] at h h'
    have := ok_lvl n h.2.2.2.1.1 h'.2.2.2.1.1
    omega
theorem tag_run (n : Nd) : isTag "run" (dat n) = n.isRun := by
  cases n with
  | el k => rw [dat]; rfl
  | run b c =>
    rw [dat]
    exact beq_self_eq_true (Str.ofString "run")
  | blk ps =>
    rw [dat]
    exact unlike_sorts.2
theorem tag_blk (n : Nd) : isTag "block" (dat n) = n.isBlk := by
  cases n with
  | el k => rw [dat]; rfl
  | run b c =>
    rw [dat]
    exact unlike_sorts.1
  | blk ps =>
    rw [dat]
    exact beq_self_eq_true (Str.ofString "block")
theorem tag_inv {z : Str} {d : PyData} (h : isTag z d = true) : ∃ ds, d = .tuple (.str z :: ds) := by
  cases d with
  | tuple ds =>
    cases ds with
    | nil => cases h
    | cons x r =>
      cases x with
      | str y =>
        have h' : (y == z) = true := h
        rw [beq_iff_eq] at h'
        exact ⟨r, by rw [h']⟩
      | _ => cases h
  | _ => cases h
theorem node_run {x c : PyData} : NodeD (.tuple [.str "run", x, c]) ↔ cntD 2 c = true ∧ isTag "run" x = false ∧ NodeD x := by
  constructor
  · rintro ⟨n, l, ok, e⟩
    cases n with
    | el k => rw [dat] at e; cases e
    | blk ps =>
      rw [dat] at e
      injection e with e
      injection e with e1 e2
      injection e2 with _ e3
      cases e3
    | run b k =>
      rw [dat] at e
      injection e with e
      injection e with _ e
      injection e with e1 e
      injection e with e2 _
      subst e1 e2
      rw [Ok] at ok
      refine ⟨?_, by rw [tag_run]; exact ok.2.2.1, b, l, ok.2.2.2, rfl⟩
      show (decide ((2 : Int) ≤ (k : Int)) && decide ((k : Int) ≤ 10 ^ 60)) = true
      have h2 : (k : Int) ≤ 10 ^ 60 := by exact_mod_cast ok.2.1
      rw [decide_eq_true (by omega), decide_eq_true h2]
      rfl
  · rintro ⟨h1, h2, n, l, ok, rfl⟩
    cases c with
    | int z =>
      have h1' : (decide ((2 : Int) ≤ z) && decide (z ≤ 10 ^ 60)) = true := h1
      rw [Bool.and_eq_true, decide_eq_true_eq, decide_eq_true_eq] at h1'
      obtain ⟨k, rfl⟩ : ∃ k : Nat, z = (k : Int) := ⟨z.toNat, by omega⟩
      refine ⟨.run n k, l, ?_, by rw [dat]⟩
      rw [Ok]
      refine ⟨by omega, by exact_mod_cast h1'.2, by rw [← tag_run]; exact h2, ok⟩
    | _ => cases h1
/-- parts that make a block -/
def PartsD (ds : List PyData) : Prop := 2 ≤ ds.length ∧ ds.length ≤ 3 ∧ ∃ ns l, OkAll ns l ∧ Unb ns ∧ datAll ns = ds
theorem node_blk {ps : List PyData} : NodeD (.tuple [.str "block", .tuple ps]) ↔ PartsD ps := by
  constructor
  · rintro ⟨n, l, ok, e⟩
    cases n with
    | el k => rw [dat] at e; cases e
    | run b k =>
      rw [dat] at e
      injection e with e
      injection e with e1 e2
      injection e2 with _ e3
      cases e3
    | blk ns =>
      rw [dat] at e
      injection e with e
      injection e with _ e
      injection e with e _
      injection e with e
      rw [Ok] at ok
      rw [← e]
      exact ⟨by rw [datAll_length]; exact ok.2.1, by rw [datAll_length]; exact ok.2.2.1, ns, l - 1, ok.2.2.2.1, ok.2.2.2.2, rfl⟩
  · rintro ⟨h1, h2, ns, l, ok, un, rfl⟩
    rw [datAll_length] at h1 h2
    refine ⟨.blk ns, l + 1, ?_, by rw [dat]⟩
    rw [Ok]
    exact ⟨by omega, h1, h2, ok, un⟩
theorem node_run_no {ds : List PyData} (h : ds.length ≠ 2) : ¬ NodeD (.tuple (.str "run" :: ds)) := by
  rintro ⟨n, l, ok, e⟩
  cases n with
  | el k => rw [dat] at e; cases e
  | run b k =>
    rw [dat] at e
    injection e with e
    injection e with _ e
    rw [← e] at h
    exact h rfl
  | blk ns =>
    rw [dat] at e
    injection e with e
    injection e with e _
    injection e with e
    have := unlike_sorts.2
    rw [e, beq_self_eq_true] at this
    cases this
theorem node_blk_no {ds : List PyData} (h : ∀ ps, ds ≠ [.tuple ps]) : ¬ NodeD (.tuple (.str "block" :: ds)) := by
  rintro ⟨n, l, ok, e⟩
  cases n with
  | el k => rw [dat] at e; cases e
  | run b k =>
    rw [dat] at e
    injection e with e
    injection e with e _
    injection e with e
    have := unlike_sorts.1
    rw [e, beq_self_eq_true] at this
    cases this
  | blk ns =>
    rw [dat] at e
    injection e with e
    injection e with _ e
    exact h _ e.symm
theorem node_el {d : PyData} (h1 : isTag "run" d = false) (h2 : isTag "block" d = false) : NodeD d ↔ elD d = true := by
  constructor
  · rintro ⟨n, l, ok, rfl⟩
    rw [tag_run] at h1
    rw [tag_blk] at h2
    cases n with
    | el k =>
      rw [Ok] at ok
      rw [dat]
      show (decide ((0 : Int) ≤ (k : Int)) && decide ((k : Int) ≤ 10 ^ 9)) = true
      have h3 : (k : Int) ≤ 10 ^ 9 := by exact_mod_cast ok.2
      rw [decide_eq_true (by omega), decide_eq_true h3]
      rfl
    | run b k => cases h1
    | blk ns => cases h2
  · intro h
    cases d with
    | int z =>
      have h' : (decide ((0 : Int) ≤ z) && decide (z ≤ 10 ^ 9)) = true := h
      rw [Bool.and_eq_true, decide_eq_true_eq, decide_eq_true_eq] at h'
      obtain ⟨k, rfl⟩ : ∃ k : Nat, z = (k : Int) := ⟨z.toNat, by omega⟩
      refine ⟨.el k, 0, ?_, by rw [dat]⟩
      rw [Ok]
      exact ⟨rfl, by exact_mod_cast h'.2⟩
    | _ => cases h
mutual
/-- data without dicts -/
theorem dp_dq {H : Hp} : ∀ {v : V} {d : PyData}, Dq K H v d → PyData.canLay0 d = true → Dp K H v d
  | _, _, .non, _ => .non
  | _, _, .bl b, _ => .bl b
  | _, _, .int i, _ => .int i
  | _, _, .str x, _ => .str x
  | _, _, .lst h t, e => .lst h (dpA_dq t (by simpa [PyData.canLay0] using e))
  | _, _, .tup h t, e => .tup h (dpA_dq t (by simpa [PyData.canLay0] using e))
  | _, _, .dct h t, e => by simp [PyData.canLay0] at e
theorem dpA_dq {H : Hp} : ∀ {vs : List V} {ds : List PyData}, DqAll K H vs ds → PyData.canLayAll0 ds = true → DpAll K H vs ds
  | _, _, .nil, _ => .nil
  | _, _, .cons h t, e => by
    rw [PyData.canLayAll0, Bool.and_eq_true] at e
    exact .cons (dp_dq h e.1) (dpA_dq t e.2)
end
/-- nodes of a list of node data -/
theorem nodes_of {ds : List PyData} (h : ∀ d ∈ ds, NodeD d) : ∃ ns : List Nd, datAll ns = ds ∧ ∀ n ∈ ns, ∃ l, Ok n l := by
  induction ds with
  | nil => exact ⟨[], by rw [datAll], fun n h => nomatch h⟩
  | cons d r ih =>
    obtain ⟨n, l, ok, e⟩ := h d List.mem_cons_self
    obtain ⟨ns, e2, k⟩ := ih fun x hx => h x (List.mem_cons_of_mem _ hx)
    refine ⟨n :: ns, by rw [datAll, e, e2], fun m hm => ?_⟩
    rcases List.mem_cons.mp hm with rfl | hm
    · exact ⟨l, ok⟩
    · exact k m hm
end
end C01

set_option Elab.async false
set_option linter.all false
set_option maxRecDepth 100000
namespace C01
open PySem PySem.Spec PyProof.Rows L2 Loc RZ
/-! ### is_node of any value -/
section
variable {P : Program} {w : World} {K : PySem.W.Frag} {mg : Str → Option Value} {base : Heap}
theorem slice_up {H : Hp} {a : Addr} {xs : List V} {n : Nat} {Q : VK} (h : SqT K H a xs) (q : ∀ H' t, Same H H' → SqT K H' t (xs.take n) → Q (.ref t) H') : rSlA K (.ref a) none (some (n : Int)) H Q := by
  refine ⟨a, xs, rfl, h, fun hw => ?_, fun hw p hp => q _ p (sameN hp) (.inl (.inl ?_))⟩
  · have hw2 := hw.2
    rw [HT.sIx_nat] at hw2
    refine q H a (Same.refl H) ?_
    rw [List.take_of_length_le (by omega)]
    exact h
  · rw [upd_same]
    unfold cutV
    rw [HT.sIx_nat]
    have e1 : HT.sIx xs.length 0 none = 0 := rfl
    rw [e1, List.drop_zero, Nat.sub_zero]
    by_cases c : n ≤ xs.length
    · rw [Nat.min_eq_left c]
    · rw [Nat.min_eq_right (by omega), List.take_of_length_le (Nat.le_refl _), List.take_of_length_le (by omega)]
def spTag (K : PySem.W.Frag) (z : Str) : Sp := fun vs H Q _ => ∃ v d, vs = [v] ∧ Dq K H v d ∧ ∀ H', Same H H' → Q (.bl (isTag z d)) H'
theorem ok_isrunQ {f : Addr} {fd : FuncData} {k : Nat} (F : Fun K "is_run" "is_run" sIsRun f fd) (mi : mg "isinstance" = none) (mt : mg "tuple" = none) : FnOk P w K mg base CX0 (k + 1) f fd ["value"] (spTag K "run") := by
  refine F.ok scIsRun (fun vs H Q E h => ?_) (fun cdv A outer s H vs Q E hr h => ?_)
  · obtain ⟨v, d, rfl, _⟩ := h
    rfl
  · obtain ⟨v, d, rfl, hv, q⟩ := h
    refine ⟨_, pss_one (ps_ret (pe_and (pe_callB call_isi (by rfl) mi PyProof.Rows.boot_isinstance (pa_cons (pv 0) (pa_cons (pe_bltn (v := .ty "tuple") (by rfl) mt PyProof.Rows.boot_tuple rfl) pa_nil)))
      (pe_one (pe_cmpR (op_tag hr.units) (pe_slice sl_tupA (pv 0) po_none (po_some pe_int)) (pe_tup (pa_cons pe_str pa_nil)) (nomark _))))), ?_⟩
    refine andV_isi (i := 0) (v := v) rfl (Same.refl H) hv (kit_tup d) (fun e => ?_) (fun e => ?_)
    · obtain ⟨ds, rfl⟩ : ∃ ds, d = .tuple ds := by cases d <;> first | exact ⟨_, rfl⟩ | cases e
      obtain ⟨a, us, rfl, hT, hD⟩ := hv.tupI
      refine ⟨.ref a, rfl, 1, rfl, slice_up (n := 1) hT fun H1 t s1 h1 => ?_⟩
      refine ⟨(show 1 ≤ sizeLine from by decide), fun b nb => ?_⟩
      have s2 := s1.trans (sameN (o := .tup [.str "run"]) nb)
      refine ⟨t, b, us.take 1, ds.take 1, _, rfl, rfl, sameT (sameN nb) h1, (hD.up s2).take 1, by rw [List.length_take]; omega, .inl (.inl upd_same), ?_⟩
      have e1 : isTag "run" (.tuple (ds.take 1)) = isTag "run" (.tuple ds) := by cases ds <;> rfl
      rw [e1]
      exact q _ s2
    · have e1 : isTag "run" d = false := by cases d <;> first | rfl | cases e
      have q0 := q H (Same.refl H)
      rw [e1] at q0
      exact q0
theorem ok_isblkQ {f : Addr} {fd : FuncData} {k : Nat} (F : Fun K "is_block" "is_block" sIsBlk f fd) (mi : mg "isinstance" = none) (mt : mg "tuple" = none) : FnOk P w K mg base CX0 (k + 1) f fd ["value"] (spTag K "block") := by
  refine F.ok scIsBlk (fun vs H Q E h => ?_) (fun cdv A outer s H vs Q E hr h => ?_)
  · obtain ⟨v, d, rfl, _⟩ := h
    rfl
  · obtain ⟨v, d, rfl, hv, q⟩ := h
    refine ⟨_, pss_one (ps_ret (pe_and (pe_callB call_isi (by rfl) mi PyProof.Rows.boot_isinstance (pa_cons (pv 0) (pa_cons (pe_bltn (v := .ty "tuple") (by rfl) mt PyProof.Rows.boot_tuple rfl) pa_nil)))
      (pe_one (pe_cmpR (op_tag hr.units) (pe_slice sl_tupA (pv 0) po_none (po_some pe_int)) (pe_tup (pa_cons pe_str pa_nil)) (nomark _))))), ?_⟩
    refine andV_isi (i := 0) (v := v) rfl (Same.refl H) hv (kit_tup d) (fun e => ?_) (fun e => ?_)
    · obtain ⟨ds, rfl⟩ : ∃ ds, d = .tuple ds := by cases d <;> first | exact ⟨_, rfl⟩ | cases e
      obtain ⟨a, us, rfl, hT, hD⟩ := hv.tupI
      refine ⟨.ref a, rfl, 1, rfl, slice_up (n := 1) hT fun H1 t s1 h1 => ?_⟩
      refine ⟨(show 1 ≤ sizeLine from by decide), fun b nb => ?_⟩
      have s2 := s1.trans (sameN (o := .tup [.str "block"]) nb)
      refine ⟨t, b, us.take 1, ds.take 1, _, rfl, rfl, sameT (sameN nb) h1, (hD.up s2).take 1, by rw [List.length_take]; omega, .inl (.inl upd_same), ?_⟩
      have e1 : isTag "block" (.tuple (ds.take 1)) = isTag "block" (.tuple ds) := by cases ds <;> rfl
      rw [e1]
      exact q _ s2
    · have e1 : isTag "block" d = false := by cases d <;> first | rfl | cases e
      have q0 := q H (Same.refl H)
      rw [e1] at q0
      exact q0
/-! parts that fit together -/
theorem unb_get : ∀ {ns : List Nd} {i : Nat} {x y : Nd}, Unb ns → ns[i]? = some x → ns[i + 1]? = some y → x.base ≠ y.base
  | [], i, x, y, _, h, _ => by simp at h
  | [a], i, x, y, _, h, k => by simp at k
  | a :: b :: r, 0, x, y, u, h, k => by
    have e1 : a = x := by simpa using h
    have e2 : b = y := by simpa using k
    rw [← e1, ← e2]
    exact u.1
  | a :: b :: r, i + 1, x, y, u, h, k => unb_get (ns := b :: r) (i := i) u.2 (by simpa using h) (by simpa using k)
theorem fit_yes {ns : List Nd} (h3 : ns.length ≤ 3) (h : ∀ n ∈ ns, ∃ l, Ok n l) (k : ∀ (j : Nat) x y, ns[j]? = some x → ns[j + 1]? = some y → (∃ l, Ok x l ∧ Ok y l) ∧ x.base ≠ y.base) : ∃ l, OkAll ns l ∧ Unb ns := by
  match ns, h3, h, k with
  | [], _, _, _ => exact ⟨0, by rw [OkAll]; exact trivial, trivial⟩
  | [x], _, h, _ =>
    obtain ⟨l, ok⟩ := h x List.mem_cons_self
    exact ⟨l, by rw [OkAll, OkAll]; exact ⟨ok, trivial⟩, trivial⟩
  | [x, y], _, _, k =>
    obtain ⟨⟨l, o1, o2⟩, ne⟩ := k 0 x y rfl rfl
    exact ⟨l, by rw [OkAll, OkAll, OkAll]; exact ⟨o1, o2, trivial⟩, ne, trivial⟩
  | [x, y, z], _, _, k =>
    obtain ⟨⟨l, o1, o2⟩, ne⟩ := k 0 x y rfl rfl
    obtain ⟨⟨l', o3, o4⟩, ne'⟩ := k 1 y z rfl rfl
    have := ok_lvl y o3 o2
    subst this
    exact ⟨l', by rw [OkAll, OkAll, OkAll, OkAll]; exact ⟨o1, o3, o4, trivial⟩, ne, ne', trivial⟩
theorem fit_no {ns : List Nd} {j : Nat} {x y : Nd} (hx : ns[j]? = some x) (hy : ns[j + 1]? = some y) (h : ¬ ((∃ l, Ok x l ∧ Ok y l) ∧ x.base ≠ y.base)) : ¬ ∃ l, OkAll ns l ∧ Unb ns := by
  rintro ⟨l, ok, un⟩
  exact h ⟨⟨l, ok.mem x (List.mem_of_getElem? hx), ok.mem y (List.mem_of_getElem? hy)⟩, unb_get un hx hy⟩
theorem dat_shaped {n : Nd} (h : (dat n).depth ≤ 60) : SeqAt.shaped (dat n) = true := by
  unfold SeqAt.shaped
  rw [Bool.and_eq_true]
  exact ⟨canLay_dat n, decide_eq_true (by omega)⟩
theorem base_depth {n : Nd} : (dat n.base).depth ≤ (dat n).depth := by
  cases n with
  | run b c =>
    show (dat b).depth ≤ (dat (.run b c)).depth
    rw [dat.eq_2]
    simp only [PyData.depth, PyData.depthAll]
    omega
  | _ => exact Nat.le_refl _
theorem scFit : FnScope ["nodes", "at"] ["nodes"] (defScope sFit) := ⟨rfl, rfl, rfl, by decide +kernel, rfl, by decide +kernel, by decide +kernel⟩
def spFitQ (K : PySem.W.Frag) : Sp := fun vs H Q _ => ∃ a us ns, vs = [.ref a] ∧ SqT K H a us ∧ NdsV K H us ns ∧ (∀ n ∈ ns, ∃ l, Ok n l) ∧ (∀ n ∈ ns, (dat n).depth ≤ 60) ∧ ns.length ≤ 3 ∧ ∀ b H', Same H H' → (b = true ↔ ∃ l, OkAll ns l ∧ Unb ns) → Q (.bl b) H'
theorem ok_fitQ (X : Facts K mg) : FnOk P w K mg base CX0 4 X.ufit_together X.vfit_together ["nodes"] (spFitQ K) := by
  have GC : FnOk P w K mg base CX0 3 X.ubase_of X.vbase_of ["node"] (spBase K) := ok_base X.fbase_of X.fis_run X.gis_run X.bis_run X.isinstance X.tuple
  have GD : FnOk P w K mg base CX0 3 X.ulevel_of X.vlevel_of ["node"] (spLevel K) := ok_level X.flevel_of X.fbase_of X.gbase_of X.bbase_of X.fis_run X.gis_run X.bis_run X.fis_block X.gis_block X.bis_block X.isinstance X.tuple
  refine X.ffit_together.ok scFit (fun vs H Q E h => ?_) (fun cdv A outer s H vs Q E hr h => ?_)
  · obtain ⟨a, us, ns, rfl, _⟩ := h
    rfl
  · obtain ⟨a, us, ns, rfl, hT, hN, hok, hdep, len, q⟩ := h
    refine ⟨_, pss_cons (ps_for PassesOwn.never rfl (pi_range2 (by rfl) X.range (pa_cons pe_int (pa_cons (pe_callB call_len_seq (by rfl) X.len PySem.boot_len (pa_cons (pv 0) pa_nil)) pa_nil))) (pg_name (i := 1) scFit.nd rfl (.inl rfl))
        (pss_one (ps_if (PW.pt (pw_or (pt_cmpR op_ne (pe_call GD hr (by rfl) X.glevel_of X.flevel_of.kp X.blevel_of .nil pass0 (pa_cons (pe_ix ix_tup (pv 0) (pe_op op_sub (pv 1) pe_int) (fun _ _ => rfl)) pa_nil)) (pe_call GD hr (by rfl) X.glevel_of X.flevel_of.kp X.blevel_of .nil pass0 (pa_cons (pe_ix ix_tup (pv 0) (pv 1) (fun _ _ => rfl)) pa_nil)) (nomark _))
            (pw_or1 (pt_cmpR (op_eqD hr.units) (pe_call GC hr (by rfl) X.gbase_of X.fbase_of.kp X.bbase_of .nil pass0 (pa_cons (pe_ix ix_tup (pv 0) (pe_op op_sub (pv 1) pe_int) (fun _ _ => rfl)) pa_nil)) (pe_call GC hr (by rfl) X.gbase_of X.fbase_of.kp X.bbase_of .nil pass0 (pa_cons (pe_ix ix_tup (pv 0) (pv 1) (fun _ _ => rfl)) pa_nil)) (nomark _)))))
          (pss_one (ps_ret pe_bl)) pss_nil)))
      (pss_one (ps_ret pe_bl)), ?_⟩
    have hlu := hN.len
    refine ⟨.ref a, rfl, a, us, rfl, .inr hT, 1, _, rfl, ⟨by decide, by decide, by omega, by omega⟩, ?_⟩
    have n0 : (((us.length : Nat) : Int) - 1).toNat = ns.length - 1 := by omega
    refine for_range (fun i σ H' => ∃ y, σ = [some (.ref a), y] ∧ Same H H' ∧ ∀ (j : Nat) x z, j < i → ns[j]? = some x → ns[j + 1]? = some z → (∃ l, Ok x l ∧ Ok z l) ∧ x.base ≠ z.base) ⟨none, rfl, Same.refl H, fun j x z hj => absurd hj (Nat.not_lt_zero _)⟩ (fun i σ H' hi hp => ?_) (fun σ H' hp => ?_)
    · obtain ⟨y, rfl, s1, adj⟩ := hp
      rw [n0] at hi
      obtain ⟨x, hx⟩ := get_of (l := ns) (i := i) (by omega)
      obtain ⟨z, hz⟩ := get_of (l := ns) (i := i + 1) (by omega)
      have hT1 := sameT s1 hT
      have hN1 := hN.up (.of (K := K) s1)
      obtain ⟨u, eu, ku⟩ := hN1.at hx
      obtain ⟨v, ev, kv⟩ := hN1.at hz
      have mx := List.mem_of_getElem? hx
      have mz := List.mem_of_getElem? hz
      obtain ⟨lx, okx⟩ := hok x mx
      obtain ⟨lz, okz⟩ := hok z mz
      refine ifs_any (fun b H'' => Same H H'' ∧ (b = true ↔ ¬ ((∃ l, Ok x l ∧ Ok z l) ∧ x.base ≠ z.base))) (fun b H'' hb => ?_) (fun R hR => ?_)
      · obtain ⟨sb, hb⟩ := hb
        cases b with
        | true => exact iteT (q false _ sb ⟨(fun z => nomatch z), fun hh => absurd hh (fit_no hx hz (hb.mp rfl))⟩)
        | false =>
          refine iteF ⟨_, rfl, sb, fun j x' z' hj e1 e2 => ?_⟩
          by_cases c : j < i
          · exact adj j x' z' c e1 e2
          · obtain rfl : j = i := by omega
            rw [hx] at e1
            rw [hz] at e2
            cases e1
            cases e2
            exact Classical.byContradiction fun hh => Bool.noConfusion (hb.mpr hh)
      refine ⟨.ref a, rfl, _, rfl, _, 1, rfl, rfl, a, us, ((i : Nat) : Int), u, rfl, int_congr (by omega), hT1, atI_nat eu, u, x, lx, rfl, ku, okx, fun H2 s2 => ?_⟩
      refine ⟨.ref a, rfl, _, rfl, a, us, ((i + 1 : Nat) : Int), v, rfl, int_congr (by omega), sameT s2 hT1, atI_nat ev, v, z, lz, rfl, kv.up (.of s2), okz, fun H3 s3 => ?_⟩
      have s23 := s2.trans s3
      by_cases el : lx = lz
      · subst el
        refine ⟨rfl, _, rfl, ?_⟩
        rw [decide_eq_true rfl]
        refine iteF ⟨.ref a, rfl, _, rfl, _, 1, rfl, rfl, a, us, ((i : Nat) : Int), u, rfl, int_congr (by omega), sameT s23 hT1, atI_nat eu, u, x, rfl, ku.up (.of s23), fun H4 u4 s4 k4 => ?_⟩
        have s24 := s23.trans s4
        refine ⟨.ref a, rfl, _, rfl, a, us, ((i + 1 : Nat) : Int), v, rfl, int_congr (by omega), sameT s24 hT1, atI_nat ev, v, z, rfl, kv.up (.of s24), fun H5 v5 s5 k5 => ⟨_, _, k4.up (.of s5), k5, dat_shaped (Nat.le_trans base_depth (hdep x mx)), dat_shaped (Nat.le_trans base_depth (hdep z mz)), _, rfl, ?_⟩⟩
        refine hR _ _ ⟨s1.trans (s24.trans s5), ?_⟩
        rw [eqv_dat]
        constructor
        · rintro e ⟨_, ne⟩
          exact ne e
        · intro hh
          exact Classical.byContradiction fun ne => hh ⟨⟨lx, okx, okz⟩, ne⟩
      · refine ⟨rfl, _, rfl, ?_⟩
        rw [decide_eq_false (fun z => el (by injection z with z; omega))]
        exact iteT (hR true _ ⟨s1.trans s23, (fun _ hh => el (by obtain ⟨⟨l, o1, o2⟩, _⟩ := hh; exact (ok_lvl x okx o1).trans (ok_lvl z o2 okz))), (fun _ => rfl)⟩)
    · obtain ⟨y, rfl, s1, adj⟩ := hp
      refine q true _ s1 ⟨fun _ => fit_yes len hok fun j x z e1 e2 => adj j x z ?_ e1 e2, fun _ => rfl⟩
      have := (List.getElem?_eq_some_iff.mp e2).1
      omega
end
end C01

set_option Elab.async false
set_option linter.all false
set_option maxRecDepth 100000
namespace C01
open PySem PySem.Spec PyProof.Rows L2 Loc RZ
section
variable {P : Program} {w : World} {K : PySem.W.Frag} {mg : Str → Option Value} {base : Heap}
theorem scParts : FnScope ["values", "value"] ["values"] (defScope sParts) := ⟨rfl, rfl, rfl, by decide +kernel, rfl, by decide +kernel, by decide +kernel⟩
theorem scIsNode : FnScope ["value"] ["value"] (defScope sIsNode) := ⟨rfl, rfl, rfl, by decide +kernel, rfl, by decide +kernel, by decide +kernel⟩
def spNodeQ (K : PySem.W.Frag) (m : Nat) : Sp := fun vs H Q _ => ∃ v d, vs = [v] ∧ Dq K H v d ∧ d.depth < m ∧ m ≤ 60 ∧ ∀ b H', Same H H' → (b = true ↔ NodeD d) → Q (.bl b) H'
def spPartsQ (K : PySem.W.Frag) (m : Nat) : Sp := fun vs H Q _ => ∃ a us ds, vs = [.ref a] ∧ SqT K H a us ∧ DqAll K H us ds ∧ PyData.depthAll ds < m ∧ m ≤ 60 ∧ ∀ b H', Same H H' → (b = true ↔ PartsD ds) → Q (.bl b) H'
theorem dep_in {d : PyData} : ∀ {ds : List PyData}, d ∈ ds → d.depth ≤ PyData.depthAll ds
  | x :: r, h => by
    rw [PyData.depthAll]
    rcases List.mem_cons.mp h with rfl | h
    · omega
    · have := dep_in h
      omega
theorem len1 {α : Type} {xs : List α} (h : xs.length = 1) : ∃ x, xs = [x] := match xs, h with
  | [x], _ => ⟨x, rfl⟩
theorem len2 {α : Type} {xs : List α} (h : xs.length = 2) : ∃ x y, xs = [x, y] := match xs, h with
  | [x, y], _ => ⟨x, y, rfl⟩
theorem ok_partsQ (X : Facts K mg) {m k : Nat} (hk : 4 ≤ k) (GN : FnOk P w K mg base CX0 k X.uis_node X.vis_node ["value"] (spNodeQ K m)) : FnOk P w K mg base CX0 (k + 1) X.ucan_be_parts X.vcan_be_parts ["values"] (spPartsQ K m) := by
  have GP : FnOk P w K mg base CX0 4 X.ufit_together X.vfit_together ["nodes"] (spFitQ K) := ok_fitQ X
  refine X.fcan_be_parts.ok scParts (fun vs H Q E h => ?_) (fun cdv A outer s H vs Q E hr h => ?_)
  · obtain ⟨a, us, ds, rfl, _⟩ := h
    rfl
  · obtain ⟨a, us, ds, rfl, hT, hD, hdep, m60, q⟩ := h
    have r4 := hr.mono (j := 4) (by omega)
    refine ⟨_, pss_cons (ps_if (pt_not (pt_chain op_le op_le pe_int (pe_callB call_len_seq (by rfl) X.len PySem.boot_len (pa_cons (pv 0) pa_nil)) pe_int)) (pss_one (ps_ret pe_bl)) pss_nil)
      (pss_cons (ps_for PassesOwn.never rfl (pi_tup (pv 0)) (pg_name (i := 1) scParts.nd rfl (.inl rfl))
        (pss_one (ps_if (pt_not (pt_val (pe_call GN hr (by rfl) X.gis_node X.fis_node.kp X.bis_node .nil pass0 (pa_cons (pv 1) pa_nil)))) (pss_one (ps_ret pe_bl)) pss_nil)))
      (pss_one (ps_ret (pe_call GP r4 (by rfl) X.gfit_together X.ffit_together.kp X.bfit_together .nil pass0 (pa_cons (pv 0) pa_nil))))), ?_⟩
    have hlu := hD.len
    have no : ¬ (2 ≤ ds.length ∧ ds.length ≤ 3) → ¬ PartsD ds := fun h hp => h ⟨hp.1, hp.2.1⟩
    refine seq_if (fun b H' => H' = H ∧ (b = true ↔ ¬ (2 ≤ ds.length ∧ ds.length ≤ 3))) (fun R hR => ?_) (fun H' h' => ?_) (fun H' h' => ?_)
    · refine ⟨.ref a, rfl, a, us, rfl, .inr hT, 2, _, rfl, rfl, _, rfl, ?_⟩
      by_cases h2 : (2 : Int) ≤ ((us.length : Nat) : Int)
      · rw [decide_eq_true h2]
        refine ⟨_, 3, rfl, rfl, _, rfl, hR _ _ ⟨rfl, ?_⟩⟩
        by_cases h3 : ((us.length : Nat) : Int) ≤ 3
        · rw [decide_eq_true h3]
          exact ⟨fun z => (by cases z), fun z => absurd ⟨by omega, by omega⟩ z⟩
        · rw [decide_eq_false h3]
          exact ⟨fun _ z => by omega, fun _ => rfl⟩
      · rw [decide_eq_false h2]
        exact iteF ⟨_, rfl, hR _ _ ⟨rfl, ⟨fun _ z => by omega, fun _ => rfl⟩⟩⟩
    · obtain ⟨rfl, h'⟩ := h'
      exact q false _ (Same.refl _) ⟨fun z => (by cases z), fun z => absurd z (no (h'.mp rfl))⟩
    obtain ⟨rfl, h'⟩ := h'
    have hl : 2 ≤ ds.length ∧ ds.length ≤ 3 := Classical.byContradiction fun z => Bool.noConfusion (h'.mpr z)
    refine ⟨.ref a, rfl, a, rfl, ⟨us, hT⟩, ?_⟩
    refine for_tup (xs := us) (fun i σ H2 => ∃ y, σ = [some (.ref a), y] ∧ Same H' H2 ∧ ∀ d ∈ ds.take i, NodeD d) ⟨none, rfl, Same.refl _, fun d h => nomatch h⟩ (fun i σ H2 _ hp => ?_) (fun i u σ H2 hu hp => ?_) (fun σ H2 hp => ?_)
    · obtain ⟨_, _, s1, _⟩ := hp
      exact sameT s1 hT
    · obtain ⟨y, rfl, s1, hn⟩ := hp
      obtain ⟨d, hd, kd⟩ := (hD.up s1).get hu
      have dm := dep_in (List.mem_of_getElem? hd)
      refine ifs_any (fun b H3 => Same H' H3 ∧ (b = true ↔ ¬ NodeD d)) (fun b H3 hb => ?_) (fun R hR => ?_)
      · obtain ⟨s3, hb⟩ := hb
        cases b with
        | true =>
          refine iteT (q false _ s3 ⟨fun z => (by cases z), fun z => absurd ?_ (hb.mp rfl)⟩)
          obtain ⟨ns, l, ok, _, e⟩ := z.2.2
          rw [← e, datAll_map] at hd
          rw [List.getElem?_map] at hd
          obtain ⟨n, hn', e'⟩ := Option.map_eq_some_iff.mp hd
          exact ⟨n, l, ok.mem n (List.mem_of_getElem? hn'), e'⟩
        | false =>
          refine iteF ⟨_, rfl, s3, fun x hx => ?_⟩
          rw [List.take_add_one, hd] at hx
          rcases List.mem_append.mp hx with hx | hx
          · exact hn x hx
          · have : x = d := by simpa using hx
            rw [this]
            exact Classical.byContradiction fun z => Bool.noConfusion (hb.mpr z)
      refine ⟨u, rfl, u, d, rfl, kd, by omega, m60, fun b H3 s3 hb => ⟨_, rfl, hR _ _ ⟨s1.trans s3, ?_⟩⟩⟩
      cases b with
      | true => exact ⟨fun z => (by cases z), fun z => absurd (hb.mp rfl) z⟩
      | false => exact ⟨fun _ z => Bool.noConfusion (hb.mpr z), fun _ => rfl⟩
    · obtain ⟨y, rfl, s1, hn⟩ := hp
      rw [List.take_of_length_le (by omega)] at hn
      obtain ⟨ns, e, hok⟩ := nodes_of hn
      have hD2 := hD.up s1
      refine ⟨.ref a, rfl, a, us, ns, rfl, sameT s1 hT, dpA_dq (e ▸ hD2) (canLay_datAll ns), hok, fun n hn' => ?_, by rw [← datAll_length, e]; exact hl.2, fun b H3 s3 hb => q b _ (s1.trans s3) (hb.trans ⟨fun ⟨l, o1, o2⟩ => ⟨hl.1, hl.2, ns, l, o1, o2, e⟩, fun ⟨_, _, ns2, l, o1, o2, e2⟩ => ?_⟩)⟩
      · have : dat n ∈ ds := by
          rw [← e, datAll_map]
          exact List.mem_map_of_mem hn'
        have := dep_in this
        omega
      · have : ns2 = ns := (eqv_datAll ns2 ns).mp (by rw [e2, ← e]; exact (eqv_datAll ns ns).mpr rfl)
        rw [← this]
        exact ⟨l, o1, o2⟩
theorem ok_nodeQ (X : Facts K mg) : ∀ m : Nat, FnOk P w K mg base CX0 (2 * m + 6) X.uis_node X.vis_node ["value"] (spNodeQ K m)
  | 0 => ⟨fun vs H Q E h => by obtain ⟨v, d, _, _, h, _⟩ := h; exact absurd h (Nat.not_lt_zero _), fun A outer s H args us vs Q E _ _ _ _ h => by obtain ⟨v, d, _, _, h, _⟩ := h; exact absurd h (Nat.not_lt_zero _)⟩
  | m + 1 => by
    have GN : FnOk P w K mg base CX0 (2 * m + 6) X.uis_node X.vis_node ["value"] (spNodeQ K m) := ok_nodeQ X m
    have GO : FnOk P w K mg base CX0 (2 * m + 7) X.ucan_be_parts X.vcan_be_parts ["values"] (spPartsQ K m) := ok_partsQ X (by omega) GN
    have GA : FnOk P w K mg base CX0 1 X.uis_run X.vis_run ["value"] (spTag K "run") := ok_isrunQ X.fis_run X.isinstance X.tuple
    have GB : FnOk P w K mg base CX0 1 X.uis_block X.vis_block ["value"] (spTag K "block") := ok_isblkQ X.fis_block X.isinstance X.tuple
    have GL : FnOk P w K mg base CX0 2 X.uis_element X.vis_element ["value"] (spElementQ K) := ok_elementQ X.fis_element X.fis_whole X.gis_whole X.bis_whole X.isinstance X.int X.bool
    have GM : FnOk P w K mg base CX0 2 X.uis_count X.vis_count ["value", "least"] (spCountQ K) := ok_countQ X.fis_count X.fis_whole X.gis_whole X.bis_whole X.isinstance X.int X.bool
    refine X.fis_node.ok (k := 2 * m + 7) scIsNode (fun vs H Q E h => ?_) (fun cdv A outer s H vs Q E hr h => ?_)
    · obtain ⟨v, d, rfl, _⟩ := h
      rfl
    · obtain ⟨v, d, rfl, hv, hd, m60, q⟩ := h
      have r1 := hr.mono (j := 1) (by omega)
      have r2 := hr.mono (j := 2) (by omega)
      have rN := hr.mono (j := 2 * m + 6) (by omega)
      refine ⟨_, pss_cons (ps_if (pt_val (pe_call GA r1 (by rfl) X.gis_run X.fis_run.kp X.bis_run .nil pass0 (pa_cons (pv 0) pa_nil)))
            (pss_one (ps_ret (pe_and (pe_cmpR op_eq (pe_callB call_len_seq (by rfl) X.len PySem.boot_len (pa_cons (pv 0) pa_nil)) pe_int (nomark _))
              (pe_and (pe_call GM r2 (by rfl) X.gis_count X.fis_count.kp X.bis_count .nil pass0 (pa_cons (pe_ix ix_tup (pv 0) pe_int (fun _ _ => rfl)) (pa_cons pe_int pa_nil)))
              (pe_and (pe_not (pe_call GA r1 (by rfl) X.gis_run X.fis_run.kp X.bis_run .nil pass0 (pa_cons (pe_ix ix_tup (pv 0) pe_int (fun _ _ => rfl)) pa_nil)))
              (pe_one (pe_call GN rN (by rfl) X.gis_node X.fis_node.kp X.bis_node .nil pass0 (pa_cons (pe_ix ix_tup (pv 0) pe_int (fun _ _ => rfl)) pa_nil)))))))) pss_nil)
        (pss_cons (ps_if (pt_val (pe_call GB r1 (by rfl) X.gis_block X.fis_block.kp X.bis_block .nil pass0 (pa_cons (pv 0) pa_nil)))
            (pss_one (ps_ret (pe_and (pe_cmpR op_eq (pe_callB call_len_seq (by rfl) X.len PySem.boot_len (pa_cons (pv 0) pa_nil)) pe_int (nomark _))
              (pe_and (pe_callB call_isi (by rfl) X.isinstance PyProof.Rows.boot_isinstance (pa_cons (pe_ix ix_tup (pv 0) pe_int (fun _ _ => rfl)) (pa_cons (pe_bltn (v := .ty "tuple") (by rfl) X.tuple PyProof.Rows.boot_tuple rfl) pa_nil)))
              (pe_one (pe_call GO hr (by rfl) X.gcan_be_parts X.fcan_be_parts.kp X.bcan_be_parts .nil pass0 (pa_cons (pe_ix ix_tup (pv 0) pe_int (fun _ _ => rfl)) pa_nil))))))) pss_nil)
        (pss_one (ps_ret (pe_call GL r2 (by rfl) X.gis_element X.fis_element.kp X.bis_element .nil pass0 (pa_cons (pv 0) pa_nil))))), ?_⟩
      have bad : ∀ {b : Bool} {p : Prop}, ¬ p → b = false → (b = true ↔ p) := fun {b p} h e => ⟨fun z => (by rw [e] at z; cases z), fun z => absurd z h⟩
      have good : ∀ {b : Bool} {p : Prop}, p → b = true → (b = true ↔ p) := fun {b p} h e => ⟨fun _ => h, fun _ => e⟩
      refine ⟨v, rfl, v, d, rfl, hv, fun H1 s1 => ⟨_, rfl, ?_⟩⟩
      cases er : isTag "run" d with
      | true =>
        obtain ⟨ds, rfl⟩ := tag_inv er
        obtain ⟨a, us, rfl, hT, hD⟩ := (hv.up s1).tupI
        have ll := hD.len
        refine iteT ⟨.ref a, rfl, a, us, rfl, .inr hT, rfl, _, rfl, ?_⟩
        by_cases l3 : us.length = 3
        · rw [decide_eq_true (show V.int ((us.length : Nat) : Int) = V.int 3 by rw [l3]; rfl)]
          obtain ⟨x, c, rfl⟩ := len2 (xs := ds) (by rw [List.length_cons] at ll; omega)
          cases hD with
          | @cons u0 _ _ _ h0 hD =>
          cases hD with
          | @cons u1 _ _ _ h1 hD =>
          cases hD with
          | @cons u2 _ _ _ h2 hD =>
            cases hD
            have dx : x.depth < m := by
              simp only [PyData.depth, PyData.depthAll] at hd
              omega
            refine iteT ⟨.ref a, rfl, a, _, 2, u2, rfl, rfl, hT, rfl, u2, c, 2, rfl, h2, _, rfl, ?_⟩
            cases ec : cntD 2 c with
            | false => exact iteF (q false _ s1 (bad (fun z => by have := (node_run.mp z).1; rw [ec] at this; cases this) rfl))
            | true =>
              refine iteT ⟨.ref a, rfl, a, _, 1, u1, rfl, rfl, hT, rfl, u1, x, rfl, h1, fun H2 s2 => ⟨_, rfl, ?_⟩⟩
              have s12 := s1.trans s2
              refine ⟨_, rfl, ?_⟩
              cases ex : isTag "run" x with
              | true => exact iteF (q false _ s12 (bad (fun z => by have := (node_run.mp z).2.1; rw [ex] at this; cases this) rfl))
              | false =>
                refine iteT ⟨.ref a, rfl, a, _, 1, u1, rfl, rfl, sameT s2 hT, rfl, u1, x, rfl, h1.up s2, dx, by omega, fun b H3 s3 hb => q b _ (s12.trans s3) (hb.trans ⟨fun z => node_run.mpr ⟨ec, ex, z⟩, fun z => (node_run.mp z).2.2⟩)⟩
        · rw [decide_eq_false (show ¬ V.int ((us.length : Nat) : Int) = V.int 3 from fun z => l3 (by injection z with z; omega))]
          exact iteF (q false _ s1 (bad (node_run_no (by rw [List.length_cons] at ll; omega)) rfl))
      | false =>
        refine iteF ⟨v, rfl, v, d, rfl, hv.up s1, fun H2 s2 => ⟨_, rfl, ?_⟩⟩
        have s12 := s1.trans s2
        cases eb : isTag "block" d with
        | true =>
          obtain ⟨ds, rfl⟩ := tag_inv eb
          obtain ⟨a, us, rfl, hT, hD⟩ := (hv.up s12).tupI
          have ll := hD.len
          refine iteT ⟨.ref a, rfl, a, us, rfl, .inr hT, rfl, _, rfl, ?_⟩
          by_cases l2 : us.length = 2
          · rw [decide_eq_true (show V.int ((us.length : Nat) : Int) = V.int 2 by rw [l2]; rfl)]
            obtain ⟨x, rfl⟩ := len1 (xs := ds) (by rw [List.length_cons] at ll; omega)
            cases hD with
            | @cons u0 _ _ _ h0 hD =>
            cases hD with
            | @cons u1 _ _ _ h1 hD =>
              cases hD
              refine iteT ⟨.ref a, rfl, a, _, 1, u1, rfl, rfl, hT, rfl, ?_⟩
              have key : ∀ Q' : VK, Q' (.bl (isTupD x)) H2 → rIsi K [u1, .ty "tuple"] H2 Q' := fun Q' k => isi_any (Same.refl _) h1 (kit_tup x) k
              dsimp only [tCons, tNil, tC]
              refine key _ ?_
              refine ⟨_, rfl, ?_⟩
              cases et : isTupD x with
              | false => exact iteF (q false _ s12 (bad (node_blk_no fun ps e => by injection e with e; rw [e] at et; cases et) rfl))
              | true =>
                obtain ⟨ps, rfl⟩ : ∃ ps, x = .tuple ps := by cases x <;> first | exact ⟨_, rfl⟩ | cases et
                obtain ⟨p, ws, rfl, hP, hW⟩ := h1.tupI
                have dp : PyData.depthAll ps < m := by
                  simp only [PyData.depth, PyData.depthAll] at hd
                  omega
                exact iteT ⟨.ref a, rfl, a, _, 1, .ref p, rfl, rfl, hT, rfl, p, ws, ps, rfl, hP, hW, dp, by omega, fun b H3 s3 hb => q b _ (s12.trans s3) (hb.trans node_blk.symm)⟩
          · rw [decide_eq_false (show ¬ V.int ((us.length : Nat) : Int) = V.int 2 from fun z => l2 (by injection z with z; omega))]
            exact iteF (q false _ s12 (bad (node_blk_no fun ps e => by rw [e] at ll; exact l2 ll) rfl))
        | false =>
          refine iteF ⟨v, rfl, v, d, rfl, hv.up s12, q _ _ s12 ?_⟩
          exact (node_el er eb).symm
end
end C01

set_option Elab.async false
set_option linter.all false
set_option maxRecDepth 100000
namespace C01
open PySem PySem.Spec PyProof.Rows L2 Loc RZ
section
variable {P : Program} {w : World} {K : PySem.W.Frag} {mg : Str → Option Value} {base : Heap}
def wiD (l m : Int) : PyData → Bool
  | .int i => decide (l ≤ i) && decide (i ≤ m) | _ => false
def spLWhole (K : PySem.W.Frag) : Sp := fun vs H Q _ => ∃ v d l m, vs = [v, .int l, .int m] ∧ Dq K H v d ∧ Q (.bl (wiD l m d)) H
theorem scLWhole : FnScope ["thing", "least", "most"] ["thing", "least", "most"] (defScope sLWhole) := ⟨rfl, rfl, rfl, by decide +kernel, rfl, by decide +kernel, by decide +kernel⟩
theorem ok_lwhole {f : Addr} {fd : FuncData} {k : Nat} (F : Fun K "_law_is_whole" "_law_is_whole" sLWhole f fd) (mi : mg "isinstance" = none) (mn : mg "int" = none) (mb : mg "bool" = none) : FnOk P w K mg base CX0 (k + 1) f fd ["thing", "least", "most"] (spLWhole K) := by
  refine F.ok scLWhole (fun vs H Q E h => ?_) (fun cdv A outer s H vs Q E hr h => ?_)
  · obtain ⟨v, d, l, m, rfl, _⟩ := h
    rfl
  · obtain ⟨v, d, l, m, rfl, hv, q⟩ := h
    refine ⟨_, pss_one (ps_ret (pe_and (pe_callB call_isi (by rfl) mi PyProof.Rows.boot_isinstance (pa_cons (pv 0) (pa_cons (pe_bltn (v := .ty "int") (by rfl) mn (by decide +kernel) rfl) pa_nil)))
      (pe_and (pe_not (pe_callB call_isi (by rfl) mi PyProof.Rows.boot_isinstance (pa_cons (pv 0) (pa_cons (pe_bltn (v := .ty "bool") (by rfl) mb (by decide +kernel) rfl) pa_nil))))
        (pe_one (pe_chain op_le op_le (pv 1) (pv 0) (pv 2)))))), ?_⟩
    refine andV_isi (i := 0) (v := v) rfl (Same.refl H) hv (kit_int d) (fun e => ?_) (fun e => ?_)
    · show tAndV (tNotV _) _ _ _ _
      refine notV_isi (i := 0) (v := v) (Q := fun x H1 => ∃ c, x = V.bl c ∧ if c = true then _ else _) rfl (Same.refl H) hv (kit_bool d) ⟨_, rfl, ?_⟩
      cases e2 : isBoolD d with
      | true =>
        have : wiD l m d = false := by cases d <;> first | rfl | cases e2
        rw [this] at q
        exact iteF q
      | false =>
        cases d with
        | int z =>
          cases hv
          refine iteT ⟨_, rfl, _, rfl, l, z, rfl, rfl, _, rfl, ?_⟩
          replace q : Q (.bl (decide (l ≤ z) && decide (z ≤ m))) H := q
          by_cases h1 : l ≤ z
          · rw [decide_eq_true h1] at q ⊢
            exact iteT ⟨_, rfl, _, _, rfl, rfl, q⟩
          · rw [decide_eq_false h1] at q ⊢
            exact iteF q
        | bool b => cases e2
        | _ => cases e
    · have : wiD l m d = false := by cases d <;> first | rfl | cases e
      rw [this] at q
      exact q
end
/-! ### the law's level of any value -/
section
variable {P : Program} {w : World} {K : PySem.W.Frag} {mg : Str → Option Value} {base : Heap}
theorem for_zipU {K : PySem.W.Frag} {a b : Addr} {xs ys : List V} {g : TG} {tb : TS} {D : Ends} {σ : L2.St} {H : Hp} (Pv : Nat → L2.St → Hp → Prop) (h0 : Pv 0 σ H) (hq : ∀ i σ H, Pv i σ H → SqL K H a xs ∧ SqL K H b ys)
    (step : ∀ (i : Nat) (x y : V) (T : Addr) (σ : L2.St) (H : Hp), xs[i]? = some x → ys[i]? = some y → Pv i σ H → H T = none → g (.ref T) σ (upd H T (.tup [x, y])) fun σ2 H2 => tb { D with nx := Pv (i + 1), ct := Pv (i + 1), bk := D.nx } σ2 H2)
    (hd : ∀ i σ H, Pv i σ H → (xs.length ≤ i ∨ ys.length ≤ i) → D.nx σ H) :
    ∃ W : Nat → Nat → L2.St → Hp → Prop, (∃ m, W 0 m σ H) ∧ ∀ i m σ H, W i m σ H →
      ((Itz K a b).stop i H ∧ D.nx σ H) ∨ ((Itz K a b).go i H ∧ ∃ N : L2.St → Hp → Prop, (∀ σ' H', N σ' H' → ∃ m', m' < m ∧ W (i + 1) m' σ' H') ∧ ∀ v H', (Itz K a b).yld i H v H' → g v σ H' fun σ2 H2 => tb { D with nx := N, ct := N, bk := D.nx } σ2 H2) := by
  refine ⟨fun i m σ H => m = xs.length - i ∧ Pv i σ H, ⟨_, rfl, h0⟩, ?_⟩
  rintro i m σ H ⟨rfl, p⟩
  obtain ⟨k1, k2⟩ := hq i σ H p
  by_cases c : i < xs.length ∧ i < ys.length
  · obtain ⟨x, gx⟩ := get_of c.1
    obtain ⟨y, gy⟩ := get_of c.2
    refine .inr ⟨⟨xs, ys, x, y, k1, k2, gx, gy⟩, Pv (i + 1), fun σ' H' p' => ⟨xs.length - (i + 1), by omega, rfl, p'⟩, fun z H' hy => ?_⟩
    obtain ⟨T, x', y', rfl, hT, rfl, f1, f2⟩ := hy
    exact step i x' y' T σ H (f1 _ k1) (f2 _ k2) p hT
  · have c' : xs.length ≤ i ∨ ys.length ≤ i := by omega
    exact .inl ⟨⟨xs, ys, k1, k2, c'⟩, hd i σ H p c'⟩
theorem wi_el (d : PyData) : wiD 0 ((10 : Int) ^ (9 : Int).toNat) d = elD d := by cases d <;> rfl
theorem wi_cnt (d : PyData) : wiD 2 ((10 : Int) ^ (60 : Int).toNat) d = cntD 2 d := by cases d <;> rfl
/-- what the level of data is: a whole number, or None -/
def LvV (d : PyData) (v : V) : Prop := (∀ n l, Ok n l → dat n = d → v = .int (l : Nat)) ∧ (¬ NodeD d → v = .non)
theorem lv_no {d : PyData} (h : ¬ NodeD d) : LvV d .non := ⟨fun n l ok e => absurd ⟨n, l, ok, e⟩ h, fun _ => rfl⟩
theorem lv_yes {d : PyData} {n : Nd} {l : Nat} (ok : Ok n l) (e : dat n = d) : LvV d (.int (l : Nat)) := ⟨fun n' l' ok' e' => by
  have := dat_inj (e'.trans e.symm)
  subst this
  rw [ok_lvl n' ok' ok], fun h => absurd ⟨n, l, ok, e⟩ h⟩
theorem lv_el {d : PyData} (h : elD d = true) : LvV d (.int 0) := by
  obtain ⟨n, l, ok, e⟩ := (node_el (d := d) (by cases d <;> first | rfl | cases h) (by cases d <;> first | rfl | cases h)).mpr h
  cases n with
  | el k =>
    have ok' := ok
    rw [Ok] at ok'
    have := lv_yes ok e
    rw [ok'.1] at this
    exact this
  | run b c =>
    rw [← e, dat] at h
    cases h
  | blk ps =>
    rw [← e, dat] at h
    cases h
/-- a run's level is its base's -/
theorem lv_run {x c : PyData} {v : V} (h1 : cntD 2 c = true) (h2 : isTag "run" x = false) (h : LvV x v) : LvV (.tuple [.str "run", x, c]) v := by
  refine ⟨fun n l ok e => ?_, fun hn => h.2 fun hx => hn (node_run.mpr ⟨h1, h2, hx⟩)⟩
  cases n with
  | el k => rw [dat] at e; cases e
  | blk ps =>
    rw [dat] at e
    injection e with e
    injection e with _ e
    injection e with _ e
    cases e
  | run b k =>
    rw [dat] at e
    injection e with e
    injection e with _ e
    injection e with e _
    rw [Ok] at ok
    exact h.1 b l ok.2.2.2 e
theorem no_tag {d : PyData} (h1 : isTag "run" d = false) (h2 : isTag "block" d = false) (h3 : elD d = false) : ¬ NodeD d := fun h => by
  have := (node_el h1 h2).mp h
  rw [h3] at this
  cases this
/-- the levels of some data, laid in a list -/
theorem lot_cases : ∀ {ps : List PyData} {vs : List V}, vs.length = ps.length → (∀ (j : Nat) x v, ps[j]? = some x → vs[j]? = some v → LvV x v) →
    vs.all flatV = true ∧ ((inV .non vs = true ∧ ¬ ∀ d ∈ ps, NodeD d) ∨ (inV .non vs = false ∧ ∃ (ls : List Nat) (ns : List Nd), vs = (ls.map fun l : Nat => (l : Int)).map V.int ∧ ls.length = ps.length ∧ datAll ns = ps ∧ ∀ (j : Nat) n l, ns[j]? = some n → ls[j]? = some l → Ok n l))
  | [], [], _, _ => ⟨rfl, .inr ⟨rfl, [], [], rfl, rfl, by rw [datAll], fun j n l h => nomatch h⟩⟩
  | x :: r, v :: us, hl, h => by
    obtain ⟨f, c⟩ := lot_cases (ps := r) (vs := us) (by simpa using hl) fun j y u e1 e2 => h (j + 1) y u e1 e2
    have lv := h 0 x v rfl rfl
    by_cases hx : NodeD x
    · obtain ⟨n, l, ok, e⟩ := hx
      have ev := lv.1 n l ok e
      subst ev
      refine ⟨by rw [List.all_cons, f]; rfl, ?_⟩
      have e0 : inV .non (V.int (l : Nat) :: us) = inV .non us := by
        unfold inV
        rw [List.any_cons]
        rfl
      rcases c with ⟨c1, c2⟩ | ⟨c1, ls, ns, c2, c3, c4, c5⟩
      · exact .inl ⟨by rw [e0]; exact c1, fun hh => c2 fun d hd => hh d (List.mem_cons_of_mem _ hd)⟩
      · refine .inr ⟨by rw [e0]; exact c1, l :: ls, n :: ns, by rw [c2]; rfl, by rw [List.length_cons, List.length_cons, c3], by rw [datAll, e, c4], fun j m k e1 e2 => ?_⟩
        cases j with
        | zero =>
          injection e1 with e1
          injection e2 with e2
          rw [← e1, ← e2]
          exact ok
        | succ j => exact c5 j m k e1 e2
    · have ev := lv.2 hx
      subst ev
      refine ⟨by rw [List.all_cons, f]; rfl, .inl ⟨?_, fun hh => hx (hh x List.mem_cons_self)⟩⟩
      unfold inV
      rw [List.any_cons]
      rfl
/-- unlike levels -/
theorem lot_set {ns : List Nd} {ls : List Nat} (h2 : ns.length = 2 ∨ ns.length = 3) (hl : ls.length = ns.length) (h : ∀ (j : Nat) n l, ns[j]? = some n → ls[j]? = some l → Ok n l) :
    (1 < cntS (ls.map fun l : Nat => (l : Int)) → ¬ ∃ l, OkAll ns l) ∧ (¬ 1 < cntS (ls.map fun l : Nat => (l : Int)) → ∃ l, OkAll ns l ∧ ls[0]? = some l) := by
  match ns, ls, h2, hl, h with
  | [x, y], [a, b], _, _, h =>
    have hx := h 0 x a rfl rfl
    have hy := h 1 y b rfl rfl
    rw [List.map_cons, List.map_cons, List.map_nil, cnt_two]
    refine ⟨fun ne => fun ⟨l, ok⟩ => ne (by rw [ok_lvl x hx (ok.mem x (by simp)), ok_lvl y hy (ok.mem y (by simp))]), fun e => ?_⟩
    have e' : a = b := by
      have := Classical.not_not.mp e
      omega
    subst e'
    exact ⟨a, by rw [OkAll, OkAll, OkAll]; exact ⟨hx, hy, trivial⟩, rfl⟩
  | [x, y, z], [a, b, c], _, _, h =>
    have hx := h 0 x a rfl rfl
    have hy := h 1 y b rfl rfl
    have hz := h 2 z c rfl rfl
    rw [List.map_cons, List.map_cons, List.map_cons, List.map_nil, cnt_three]
    refine ⟨fun ne => fun ⟨l, ok⟩ => ne (by rw [ok_lvl x hx (ok.mem x (by simp)), ok_lvl y hy (ok.mem y (by simp)), ok_lvl z hz (ok.mem z (by simp))]; exact ⟨rfl, rfl⟩), fun e => ?_⟩
    have e' : a = b ∧ b = c := by
      have := Classical.not_not.mp e
      omega
    obtain ⟨rfl, rfl⟩ := e'
    exact ⟨a, by rw [OkAll, OkAll, OkAll, OkAll]; exact ⟨hx, hy, hz, trivial⟩, rfl⟩
theorem cut_fr (xs : List V) (i : Nat) (h : i ≤ xs.length) : cutV xs (some (i : Int)) none = xs.drop i := by
  unfold cutV
  rw [HT.sIx_nat, Nat.min_eq_left h]
  have e : HT.sIx xs.length xs.length none = xs.length := rfl
  rw [e, List.take_of_length_le (by rw [List.length_drop]; omega)]
theorem unb_of {ns : List Nd} (h3 : ns.length ≤ 3) (h : ∀ (j : Nat) x y, ns[j]? = some x → ns[j + 1]? = some y → x.base ≠ y.base) : Unb ns := by
  match ns, h3, h with
  | [], _, _ => exact trivial
  | [x], _, _ => exact trivial
  | [x, y], _, h => exact ⟨h 0 x y rfl rfl, trivial⟩
  | [x, y, z], _, h => exact ⟨h 0 x y rfl rfl, h 1 y z rfl rfl, trivial⟩
abbrev nmLvl : List Str := ["thing", "is_twice", "lot", "one", "grounds", "other"]
theorem scLvl : FnScope nmLvl ["thing"] (defScope sLLevel) := ⟨rfl, rfl, rfl, by decide +kernel, rfl, by decide +kernel, by decide +kernel⟩
def spLvl (K : PySem.W.Frag) (m : Nat) : Sp := fun vs H Q _ => ∃ v d, vs = [v] ∧ Dq K H v d ∧ d.depth < m ∧ m ≤ 60 ∧ ∀ v' H', Same H H' → LvV d v' → Q v' H'
theorem nx3 {f : L2.St → Hp → Prop} {rt : VK} {bk ct : L2.St → Hp → Prop} {i : Nat} {v : V} {σ : L2.St} {H : Hp} (h : f (σ.set i (some v)) H) : gName i v σ H (Ends.mk f rt bk ct).nx := h
theorem seq_val {te : TE} {i : Nat} {u : TS} {D : Ends} {σ : L2.St} {H : Hp} (S : V → Hp → Prop) (h : ∀ R : VK, (∀ v H', S v H' → R v H') → te σ H R) (k : ∀ v H', S v H' → u D (σ.set i (some v)) H') : tSeq (tAsg te (gName i)) u D σ H := h _ k
set_option maxHeartbeats 0 in
theorem ok_lvl1 (X : Facts K mg) {m : Nat} (GL : FnOk P w K mg base CX0 (m + 3) X.ul_level X.vl_level ["thing"] (spLvl K m)) : FnOk P w K mg base CX0 (m + 1 + 3) X.ul_level X.vl_level ["thing"] (spLvl K (m + 1)) := by
  have GW : FnOk P w K mg base CX0 1 X.ul_is_whole X.vl_is_whole ["thing", "least", "most"] (spLWhole K) := ok_lwhole X.fl_is_whole X.isinstance X.int X.bool
  have GG : FnOk P w K mg base CX0 1 X.ul_ground X.vl_ground ["node"] (spGround K) := ok_ground X.fl_ground X.isinstance X.tuple
  refine X.fl_level.ok scLvl (fun vs H Q E h => ?_) (fun cdv A outer s H vs Q E hr h => ?_)
  · obtain ⟨v, d, rfl, _⟩ := h
    rfl
  · obtain ⟨v, d, rfl, hv, hd, m60, q⟩ := h
    have r1 := hr.mono (j := 1) (by omega)
    refine ⟨_, pss_cons (ps_if (pt_val (pe_call GW r1 (by rfl) X.gl_is_whole X.fl_is_whole.kp X.bl_is_whole .nil pass0 (pa_cons (pv 0) (pa_cons pe_int (pa_cons (pe_op op_pow pe_int pe_int) pa_nil))))) (pss_one (ps_ret pe_int)) pss_nil)
      (pss_cons (ps_if (PW.pt (pw_or (pt_not (pt_val (pe_callB call_isi (by rfl) X.isinstance PyProof.Rows.boot_isinstance (pa_cons (pv 0) (pa_cons (pe_bltn (v := .ty "tuple") (by rfl) X.tuple PyProof.Rows.boot_tuple rfl) pa_nil)))))
          (pw_or (pt_cmpR (op_eqT0 hr.units) (pv 0) (pe_tup pa_nil) (nomark _))
          (pw_or1 (pt_not (pt_val (pe_callB call_isi (by rfl) X.isinstance PyProof.Rows.boot_isinstance (pa_cons (pe_ix ix_tup (pv 0) pe_int (fun _ _ => rfl)) (pa_cons (pe_bltn (v := .ty "str") (by rfl) X.str (by decide +kernel) rfl) pa_nil))))))))) (pss_one (ps_ret pe_non)) pss_nil)
      (pss_cons (ps_if (PW.pt (pw_and (pt_cmpR op_eq (pe_ix ix_tup (pv 0) pe_int (fun _ _ => rfl)) pe_str (nomark _)) (pw_and (pt_cmpR op_eq (pe_callB call_len_seq (by rfl) X.len PySem.boot_len (pa_cons (pv 0) pa_nil)) pe_int (nomark _))
          (pw_and1 (pt_val (pe_call GW r1 (by rfl) X.gl_is_whole X.fl_is_whole.kp X.bl_is_whole .nil pass0 (pa_cons (pe_ix ix_tup (pv 0) pe_int (fun _ _ => rfl)) (pa_cons pe_int (pa_cons (pe_op op_pow pe_int pe_int) pa_nil)))))))))
        (pss_cons (ps_set (i := 1) scLvl.nd rfl (.inl rfl) (pe_and (pe_callB call_isi (by rfl) X.isinstance PyProof.Rows.boot_isinstance (pa_cons (pe_ix ix_tup (pv 0) pe_int (fun _ _ => rfl)) (pa_cons (pe_bltn (v := .ty "tuple") (by rfl) X.tuple PyProof.Rows.boot_tuple rfl) pa_nil)))
            (pe_and (pe_cmpR (op_neT0 hr.units) (pe_ix ix_tup (pv 0) pe_int (fun _ _ => rfl)) (pe_tup pa_nil) (nomark _))
              (pe_one (pe_cmpR (op_eqS hr.units) (pe_ix ix_tup (pe_ix ix_tup (pv 0) pe_int (fun _ _ => rfl)) pe_int (fun _ _ => rfl)) pe_str (nomark _))))))
        (pss_one (ps_ret (pe_ifExp (pt_val (pv 1)) pe_non (pe_call GL hr (by rfl) X.gl_level X.fl_level.kp X.bl_level .nil pass0 (pa_cons (pe_ix ix_tup (pv 0) pe_int (fun _ _ => rfl)) pa_nil)))))) pss_nil)
      (pss_cons (ps_if (PW.pt (pw_or (pt_cmpR op_ne (pe_ix ix_tup (pv 0) pe_int (fun _ _ => rfl)) pe_str (nomark _)) (pw_or (pt_cmpR op_ne (pe_callB call_len_seq (by rfl) X.len PySem.boot_len (pa_cons (pv 0) pa_nil)) pe_int (nomark _))
          (pw_or (pt_not (pt_val (pe_callB call_isi (by rfl) X.isinstance PyProof.Rows.boot_isinstance (pa_cons (pe_ix ix_tup (pv 0) pe_int (fun _ _ => rfl)) (pa_cons (pe_bltn (v := .ty "tuple") (by rfl) X.tuple PyProof.Rows.boot_tuple rfl) pa_nil)))))
          (pw_or1 (pt_cmpR op_notIn_seq (pe_callB call_len_seq (by rfl) X.len PySem.boot_len (pa_cons (pe_ix ix_tup (pv 0) pe_int (fun _ _ => rfl)) pa_nil)) (pe_tup (pa_cons pe_int (pa_cons pe_int pa_nil))) (by rfl))))))) (pss_one (ps_ret pe_non)) pss_nil)
      (pss_cons (ps_setLc (i := 2) (own := [("one", 3)]) (g := gName 3) (tt := tYes) (te := tCall (spLvl K m) [] E0 (tCons (tVar 3) tNil)) rfl scLvl.nd rfl rfl (sw_true rfl rfl rfl (by decide +kernel)) (pi_tup (pe_ix ix_tup (pv 0) pe_int (fun _ _ => rfl))) (blkOk_by (N := nmLvl) (sc := defScope sLLevel) (by decide +kernel))
          (fun _ _ _ _ _ => pg_name (i := 3) scLvl.nd rfl (Or.inl rfl)) (fun _ _ _ _ _ => pts_nil) (fun _ _ _ _ _ => pe_call GL hr (by rfl) X.gl_level X.fl_level.kp X.bl_level .nil pass0 (pa_cons (pv 3) pa_nil)))
      (pss_cons (ps_if (PW.pt (pw_or (pt_cmpR op_in_seq pe_non (pv 2) (by rfl)) (pw_or1 (pt_cmpR op_gt (pe_lenSetA rfl (by rfl) X.len (by rfl) X.set (pv 2)) pe_int (nomark _))))) (pss_one (ps_ret pe_non)) pss_nil)
      (pss_cons (ps_setLc (i := 4) (own := [("one", 3)]) (g := gName 3) (tt := tYes) (te := tCall (spGround K) [] E0 (tCons (tVar 3) tNil)) rfl scLvl.nd rfl rfl (sw_true rfl rfl rfl (by decide +kernel)) (pi_tup (pe_ix ix_tup (pv 0) pe_int (fun _ _ => rfl))) (blkOk_by (N := nmLvl) (sc := defScope sLLevel) (by decide +kernel))
          (fun _ _ _ _ _ => pg_name (i := 3) scLvl.nd rfl (Or.inl rfl)) (fun _ _ _ _ _ => pts_nil) (fun _ _ _ _ _ => pe_call GG r1 (by rfl) X.gl_ground X.fl_ground.kp X.bl_ground .nil pass0 (pa_cons (pv 3) pa_nil)))
      (pss_cons (ps_for PassesOwn.never rfl (pi_zipA (by rfl) X.zip (pa_cons (pv 4) (pa_cons (pe_slice sl_list (pv 4) (po_some pe_int) po_none) pa_nil))) (pg_tup rfl (pgs_cons (pg_name (i := 3) scLvl.nd rfl (.inl rfl)) (pgs_cons (pg_name (i := 5) scLvl.nd rfl (.inl rfl)) pgs_nil)))
        (pss_one (ps_if (pt_cmpR (op_eqD hr.units) (pv 3) (pv 5) (nomark _)) (pss_one (ps_ret pe_non)) pss_nil)))
      (pss_one (ps_ret (pe_op op_add (pe_ix ix_list (pv 2) pe_int (fun _ _ => rfl)) pe_int)))))))))), ?_⟩
    have e0 : d.depth < m + 1 := hd
    -- an element
    refine seq_if (fun b H' => b = elD d ∧ H' = H) (fun R hR => ⟨v, rfl, 10, 9, rfl, rfl, ⟨by decide, by decide, by decide⟩, v, d, 0, _, rfl, hv, _, rfl, hR _ _ ⟨wi_el d, rfl⟩⟩) (fun H' h' => ?_) (fun H' h' => ?_)
    · obtain ⟨e, rfl⟩ := h'
      exact q _ _ (Same.refl _) (lv_el e.symm)
    obtain ⟨ee, rfl⟩ := h'
    have ee := ee.symm
    -- a tuple that begins with a word
    refine seq_if (fun b H2 => Same H' H2 ∧ (b = true → ¬ NodeD d) ∧ (b = false → ∃ z ds, d = .tuple (.str z :: ds))) (fun R hR => ?_) (fun H2 h2 => ?_) (fun H2 h2 => ?_)
    · refine or_nisi (i := 0) (v := v) rfl (Same.refl H') hv (kit_tup d) (fun e => ?_) (fun e => ?_)
      · obtain ⟨ds, rfl⟩ : ∃ ds, d = .tuple ds := by cases d <;> first | exact ⟨_, rfl⟩ | cases e
        obtain ⟨a, us, rfl, hT, hD⟩ := hv.tupI
        refine ⟨.ref a, rfl, (show 0 ≤ sizeLine from by decide), fun t nt => ?_⟩
        have s2 := sameN (o := .tup []) nt
        refine ⟨a, t, us, rfl, rfl, sameT s2 hT, .inl (.inl upd_same), _, rfl, ?_⟩
        cases hD with
        | nil => exact iteT (hR true _ ⟨s2, (fun _ => no_tag rfl rfl rfl), fun z => (by cases z)⟩)
        | @cons u0 us' x ds' h0 hD' =>
          refine iteF ⟨.ref a, rfl, a, _, 0, u0, rfl, rfl, sameT s2 hT, atI_nat (j := 0) rfl, ?_⟩
          have key : ∀ Q' : VK, Q' (.bl (isStrD x)) (upd H' t (.tup [])) → rIsi K [u0, .ty "str"] (upd H' t (.tup [])) Q' := fun Q' k => isi_any (Same.refl _) (h0.up s2) (kit_str x) k
          dsimp only [tCons, tNil, tC]
          refine key _ ?_
          refine ⟨_, rfl, ?_⟩
          cases es : isStrD x with
          | true =>
            obtain ⟨z, rfl⟩ : ∃ z, x = .str z := by cases x <;> first | exact ⟨_, rfl⟩ | cases es
            exact hR false _ ⟨s2, fun z => (by cases z), fun _ => ⟨z, ds', rfl⟩⟩
          | false => exact hR true _ ⟨s2, (fun _ => no_tag (by cases x <;> first | rfl | cases es) (by cases x <;> first | rfl | cases es) rfl), fun z => (by cases z)⟩
      · exact hR true _ ⟨Same.refl _, (fun _ => no_tag (by cases d <;> first | rfl | cases e) (by cases d <;> first | rfl | cases e) ee), fun z => (by cases z)⟩
    · exact q _ _ h2.1 (lv_no (h2.2.1 rfl))
    obtain ⟨s2, _, h2⟩ := h2
    obtain ⟨z, ds, rfl⟩ := h2 rfl
    clear h2
    obtain ⟨a, us, rfl, hT, hD⟩ := (hv.up s2).tupI
    have ll := hD.len
    cases hD with
    | @cons u0 us' _ _ h0 hD =>
    cases h0
    rw [List.length_cons, List.length_cons] at ll
    have T1 : isTag "run" (.tuple (.str z :: ds)) = (z == "run") := rfl
    have T2 : isTag "block" (.tuple (.str z :: ds)) = (z == "block") := rfl
    -- a run
    refine seq_if (fun b H3 => H3 = H2 ∧ (b = true → z = "run" ∧ ∃ x c, ds = [x, c] ∧ cntD 2 c = true) ∧ (b = false → z = "run" → ¬ NodeD (.tuple (.str z :: ds)))) (fun R hR => ?_) (fun H3 h3 => ?_) (fun H3 h3 => ?_)
    · refine ⟨.ref a, rfl, a, _, 0, .str z, rfl, rfl, hT, atI_nat (j := 0) rfl, rfl, _, rfl, ?_⟩
      by_cases ez : z = "run"
      · subst ez
        rw [decide_eq_true rfl]
        refine iteT ⟨.ref a, rfl, a, _, rfl, .inr hT, rfl, _, rfl, ?_⟩
        by_cases l3 : us'.length = 2
        · rw [decide_eq_true (show V.int (((V.str "run" :: us').length : Nat) : Int) = V.int 3 by rw [List.length_cons, l3]; rfl)]
          obtain ⟨x, c, rfl⟩ := len2 (xs := ds) (by omega)
          cases hD with
          | @cons u1 _ _ _ h1 hD =>
          cases hD with
          | @cons u2 _ _ _ h2 hD =>
            cases hD
            refine iteT ⟨.ref a, rfl, a, _, 2, u2, rfl, rfl, hT, rfl, 10, 60, rfl, rfl, ⟨by decide, by decide, by decide⟩, u2, c, 2, _, rfl, h2, _, rfl, ?_⟩
            rw [wi_cnt]
            cases ec : cntD 2 c with
            | true => exact hR true _ ⟨rfl, (fun _ => ⟨rfl, x, c, rfl, ec⟩), fun z => (by cases z)⟩
            | false => exact hR false _ ⟨rfl, (fun z => (by cases z)), fun _ _ hn => by have := (node_run.mp hn).1; rw [ec] at this; cases this⟩
        · rw [decide_eq_false (show ¬ V.int (((V.str "run" :: us').length : Nat) : Int) = V.int 3 from fun w => l3 (by injection w with w; rw [List.length_cons] at w; omega))]
          exact iteF (hR false _ ⟨rfl, (fun z => (by cases z)), fun _ _ => node_run_no (by omega)⟩)
      · rw [decide_eq_false (show ¬ V.str z = V.str "run" from fun w => ez (by injection w))]
        exact iteF (hR false _ ⟨rfl, (fun w => (by cases w)), fun _ w => absurd w ez⟩)
    · obtain ⟨rfl, h3, _⟩ := h3
      obtain ⟨rfl, x, c, rfl, ec⟩ := h3 rfl
      cases hD with
      | @cons u1 _ _ _ h1 hD =>
      cases hD with
      | @cons u2 _ _ _ h2 hD =>
        cases hD
        have dx : x.depth < m := by
          simp only [PyData.depth, PyData.depthAll] at e0
          omega
        refine seq_val (fun v' H4 => v' = .bl (isTag "run" x) ∧ Same H3 H4) (fun R hR => ?_) (fun v' H4 h4 => ?_)
        · refine ⟨.ref a, rfl, a, _, 1, u1, rfl, rfl, hT, rfl, ?_⟩
          have key : ∀ Q' : VK, Q' (.bl (isTupD x)) H3 → rIsi K [u1, .ty "tuple"] H3 Q' := fun Q' k => isi_any (Same.refl _) h1 (kit_tup x) k
          dsimp only [tCons, tNil, tC]
          refine key _ ?_
          refine ⟨_, rfl, ?_⟩
          cases et : isTupD x with
          | false => exact iteF (hR _ _ ⟨by rw [show isTag "run" x = false by cases x <;> first | rfl | cases et], Same.refl _⟩)
          | true =>
            obtain ⟨xs, rfl⟩ : ∃ xs, x = .tuple xs := by cases x <;> first | exact ⟨_, rfl⟩ | cases et
            obtain ⟨p, ws, rfl, hP, hW⟩ := h1.tupI
            refine iteT ⟨.ref a, rfl, a, _, 1, .ref p, rfl, rfl, hT, rfl, (show 0 ≤ sizeLine from by decide), fun t nt => ?_⟩
            have s3 := sameN (o := .tup []) nt
            refine ⟨p, t, ws, rfl, rfl, sameT s3 hP, .inl (.inl upd_same), _, rfl, ?_⟩
            cases hW with
            | nil => exact iteF (hR _ _ ⟨rfl, s3⟩)
            | @cons w0 ws' y ys k0 kW =>
              exact iteT ⟨.ref a, rfl, a, _, 1, .ref p, rfl, rfl, sameT s3 hT, rfl, p, _, 0, w0, rfl, rfl, sameT s3 hP, atI_nat (j := 0) rfl, y, _, k0.up s3, rfl, hR _ _ ⟨rfl, s3⟩⟩
        obtain ⟨rfl, s4⟩ := h4
        refine ⟨_, rfl, _, rfl, ?_⟩
        cases ex : isTag "run" x with
        | true => exact iteT (q _ _ (s2.trans s4) (lv_no fun hn => by have := (node_run.mp hn).2.1; rw [ex] at this; cases this))
        | false => exact iteF ⟨.ref a, rfl, a, _, 1, u1, rfl, rfl, sameT s4 hT, rfl, u1, x, rfl, h1.up s4, dx, by omega, fun v' H5 s5 hl => q _ _ ((s2.trans s4).trans s5) (lv_run ec ex hl)⟩
    obtain ⟨rfl, _, h3⟩ := h3
    have noRun := h3 rfl
    clear h3
    -- a block
    refine seq_if (fun b H4 => Same H3 H4 ∧ (b = true → ¬ NodeD (.tuple (.str z :: ds))) ∧ (b = false → z = "block" ∧ ∃ ps, ds = [.tuple ps] ∧ (ps.length = 2 ∨ ps.length = 3))) (fun R hR => ?_) (fun H4 h4 => ?_) (fun H4 h4 => ?_)
    · refine ⟨.ref a, rfl, a, _, 0, .str z, rfl, rfl, hT, atI_nat (j := 0) rfl, rfl, _, rfl, ?_⟩
      by_cases ez : z = "block"
      · subst ez
        rw [decide_eq_true rfl]
        refine iteF ⟨.ref a, rfl, a, _, rfl, .inr hT, rfl, _, rfl, ?_⟩
        by_cases l2 : us'.length = 1
        · rw [decide_eq_true (show V.int (((V.str "block" :: us').length : Nat) : Int) = V.int 2 by rw [List.length_cons, l2]; rfl)]
          obtain ⟨x, rfl⟩ := len1 (xs := ds) (by omega)
          cases hD with
          | @cons u1 _ _ _ h1 hD =>
            cases hD
            refine iteF ⟨.ref a, rfl, a, _, 1, u1, rfl, rfl, hT, rfl, ?_⟩
            have key : ∀ Q' : VK, Q' (.bl (isTupD x)) H3 → rIsi K [u1, .ty "tuple"] H3 Q' := fun Q' k => isi_any (Same.refl _) h1 (kit_tup x) k
            dsimp only [tCons, tNil, tC]
            refine key _ ?_
            refine ⟨_, rfl, ?_⟩
            cases et : isTupD x with
            | false => exact iteT (hR true _ ⟨Same.refl _, (fun _ => node_blk_no fun ps e => by injection e with e; rw [e] at et; cases et), fun z => (by cases z)⟩)
            | true =>
              obtain ⟨ps, rfl⟩ : ∃ ps, x = .tuple ps := by cases x <;> first | exact ⟨_, rfl⟩ | cases et
              obtain ⟨p, ws, rfl, hP, hW⟩ := h1.tupI
              have lw := hW.len
              refine iteF ⟨.ref a, rfl, a, _, 1, .ref p, rfl, rfl, hT, rfl, p, ws, rfl, .inr hP, (show 2 ≤ sizeLine from by decide), fun t nt => ?_⟩
              have s3 := sameN (o := .tup [.int 2, .int 3]) nt
              refine ⟨t, [.int 2, .int 3], rfl, .inr (.inl (.inl upd_same)), rfl, rfl, _, rfl, ?_⟩
              show R (!inV (.int (ws.length : Nat)) [.int 2, .int 3]) _
              rw [lw]
              by_cases c : ps.length = 2 ∨ ps.length = 3
              · rw [show (!inV (.int (ps.length : Nat)) [.int 2, .int 3]) = false by rcases c with c | c <;> rw [c] <;> rfl]
                exact hR false _ ⟨s3, (fun z => (by cases z)), fun _ => ⟨rfl, ps, rfl, c⟩⟩
              · have hno : ¬ NodeD (.tuple [.str "block", .tuple ps]) := fun hn => c (by have := node_blk.mp hn; have h1 := this.1; have h2 := this.2.1; omega)
                cases hb : (!inV (.int (ps.length : Nat)) [.int 2, .int 3]) with
                | true => exact hR true _ ⟨s3, (fun _ => hno), fun z => (by cases z)⟩
                | false =>
                  exfalso
                  have hb' : inV (.int (ps.length : Nat)) [.int 2, .int 3] = true := by simpa using hb
                  unfold inV at hb'
                  simp [eqV] at hb'
                  omega
        · rw [decide_eq_false (show ¬ V.int (((V.str "block" :: us').length : Nat) : Int) = V.int 2 from fun w => l2 (by injection w with w; rw [List.length_cons] at w; omega))]
          exact iteT (hR true _ ⟨Same.refl _, (fun _ => node_blk_no fun ps e => l2 (by rw [e] at ll; exact Nat.succ.inj ll)), fun z => (by cases z)⟩)
      · rw [decide_eq_false (show ¬ V.str z = V.str "block" from fun w => ez (by injection w))]
        refine iteT (hR true _ ⟨Same.refl _, (fun _ => ?_), fun w => (by cases w)⟩)
        by_cases er : z = "run"
        · exact noRun er
        · exact no_tag (by rw [T1]; exact beq_eq_false_iff_ne.mpr er) (by rw [T2]; exact beq_eq_false_iff_ne.mpr ez) rfl
    · exact q _ _ (s2.trans h4.1) (lv_no (h4.2.1 rfl))
    obtain ⟨s4, _, h4⟩ := h4
    obtain ⟨rfl, ps, rfl, lp⟩ := h4 rfl
    clear h4 noRun T1 T2
    cases hD with
    | @cons u1 _ _ _ h1 hD =>
    cases hD
    obtain ⟨p, ws, rfl, hP, hW⟩ := h1.tupI
    have lw := hW.len
    have dp : PyData.depthAll ps < m := by
      simp only [PyData.depth, PyData.depthAll] at e0
      omega
    have hT4 := sameT s4 hT
    have hP4 := sameT s4 hP
    have hW4 := hW.up s4
    have s24 := s2.trans s4
    -- the levels of its parts
    refine ⟨.ref a, rfl, a, _, 1, .ref p, rfl, rfl, hT4, rfl, p, rfl, ⟨ws, hP4⟩, fun D nD => ?_⟩
    refine lc_tup (xs := ws) (fun i H' => ∃ vs : List V, H' D = some (.lst vs) ∧ vs.length = i ∧ (∀ (j : Nat) x v, ps[j]? = some x → vs[j]? = some v → LvV x v) ∧ Same H4 H') ⟨[], upd_same, rfl, (fun j x v _ h => nomatch h), sameN nD⟩ (fun i H' _ hp => ?_) (fun i u H' hu hp => ?_) (fun H5 hp => ?_)
    · obtain ⟨_, _, _, _, s⟩ := hp
      exact sameT s hP4
    · obtain ⟨vs, gD, lv, hL, s⟩ := hp
      obtain ⟨x, hx, kx⟩ := (hW4.up s).get hu
      have dx := dep_in (List.mem_of_getElem? hx)
      have li : i < ws.length := (List.getElem?_eq_some_iff.mp hu).1
      refine ⟨rfl, u, rfl, u, x, rfl, kx, by omega, by omega, fun v' H6 s6 hl => ?_⟩
      refine ⟨vs, s6 _ _ gD, line5 (by omega), vs ++ [v'], upd_same, by rw [List.length_append, lv]; rfl, fun j y v e1 e2 => ?_, sameW (s.trans s6) nD⟩
      by_cases c : j < vs.length
      · rw [List.getElem?_append_left c] at e2
        exact hL j y v e1 e2
      · rw [List.getElem?_append_right (by omega)] at e2
        have ej : j = i := by
          have := (List.getElem?_eq_some_iff.mp e2).1
          rw [List.length_singleton] at this
          omega
        subst ej
        rw [lv, Nat.sub_self] at e2
        injection e2 with e2
        rw [hx] at e1
        injection e1 with e1
        rw [← e1, ← e2]
        exact hl
    obtain ⟨vs, gD, lv, hL, s5⟩ := hp
    obtain ⟨flat, cs⟩ := lot_cases (by omega) hL
    have nodes_all : ∀ ns : List Nd, datAll ns = ps → ∀ l, OkAll ns l → ∀ d ∈ ps, NodeD d := fun ns e l ok d hd => by
      rw [← e, datAll_map] at hd
      obtain ⟨n, hn, rfl⟩ := List.mem_map.mp hd
      exact ⟨n, l, ok.mem n hn, rfl⟩
    refine nx3 ?_
    refine seq_if (fun b H6 => H6 = H5 ∧ (b = true → ¬ NodeD (.tuple [.str "block", .tuple ps])) ∧ (b = false → ∃ (ls : List Nat) (ns : List Nd) (l : Nat), vs = (ls.map fun l : Nat => (l : Int)).map V.int ∧ datAll ns = ps ∧ OkAll ns l ∧ ls[0]? = some l)) (fun R hR => ?_) (fun H6 h6 => ?_) (fun H6 h6 => ?_)
    · refine ⟨.ref D, rfl, D, vs, rfl, .inl (.inl (.inl gD)), rfl, flat, _, rfl, ?_⟩
      rcases cs with ⟨c1, c2⟩ | ⟨c1, ls, ns, c2, c3, c4, c5⟩
      · show if inV .non vs = true then _ else _
        rw [c1]
        exact iteT (hR true _ ⟨rfl, (fun _ hn => c2 (by obtain ⟨_, _, ns, l, ok, _, e⟩ := node_blk.mp hn; exact nodes_all ns e l ok)), fun z => (by cases z)⟩)
      · show if inV .non vs = true then _ else _
        rw [c1]
        subst c2
        have ln : ns.length = ps.length := by rw [← c4, datAll_length]
        obtain ⟨k1, k2⟩ := lot_set (ns := ns) (ls := ls) (by rw [ln]; exact lp) (by rw [ln]; exact c3) c5
        refine iteF ⟨.ref D, rfl, D, ls.map fun l : Nat => (l : Int), rfl, .inl (.inl gD), by rw [List.length_map]; omega, _, 1, rfl, rfl, _, rfl, ?_⟩
        by_cases c : 1 < cntS (ls.map fun l : Nat => (l : Int))
        · rw [decide_eq_true (show (1 : Int) < ((cntS (ls.map fun l : Nat => (l : Int)) : Nat) : Int) by omega)]
          refine hR true _ ⟨rfl, (fun _ hn => k1 c ?_), fun z => (by cases z)⟩
          obtain ⟨_, _, ns2, l, ok, _, e⟩ := node_blk.mp hn
          have : ns2 = ns := (eqv_datAll ns2 ns).mp (by rw [e, ← c4]; exact (eqv_datAll ns ns).mpr rfl)
          rw [← this]
          exact ⟨l, ok⟩
        · rw [decide_eq_false (show ¬ (1 : Int) < ((cntS (ls.map fun l : Nat => (l : Int)) : Nat) : Int) by omega)]
          obtain ⟨l, ok, e⟩ := k2 c
          exact hR false _ ⟨rfl, (fun z => (by cases z)), fun _ => ⟨ls, ns, l, rfl, c4, ok, e⟩⟩
    · obtain ⟨rfl, h6, _⟩ := h6
      exact q _ _ (s24.trans s5) (lv_no (h6 rfl))
    obtain ⟨rfl, _, h6⟩ := h6
    obtain ⟨ls, ns, l, rfl, ens, okA, el⟩ := h6 rfl
    clear h6 cs flat hL
    have ln : ns.length = ps.length := by rw [← ens, datAll_length]
    have hW6 : NdsV K H6 ws ns := dpA_dq (ens ▸ hW4.up s5) (canLay_datAll ns)
    have hT6 := sameT s5 hT4
    have hP6 := sameT s5 hP4
    -- their grounds
    refine ⟨.ref a, rfl, a, _, 1, .ref p, rfl, rfl, hT6, rfl, p, rfl, ⟨ws, hP6⟩, fun D2 nD2 => ?_⟩
    refine lc_tup (xs := ws) (fun i H' => ∃ gs : List V, H' D2 = some (.lst gs) ∧ NdsV K H' gs ((ns.take i).map Nd.base) ∧ Same H6 H') ⟨[], upd_same, .nil, sameN nD2⟩ (fun i H' _ hp => ?_) (fun i u H' hu hp => ?_) (fun H7 hp => ?_)
    · obtain ⟨_, _, _, s⟩ := hp
      exact sameT s hP6
    · obtain ⟨gs, gD2, kG, s⟩ := hp
      obtain ⟨n, hn, kn⟩ := (hW6.up (.of (K := K) s)).get hu
      have li := (List.getElem?_eq_some_iff.mp hn).1
      have lg := kG.len
      rw [List.length_map, List.length_take] at lg
      refine ⟨rfl, u, rfl, u, n, rfl, kn, fun v' kv => ⟨gs, gD2, line5 (by omega), gs ++ [v'], upd_same, ?_, sameW s nD2⟩⟩
      rw [take_more hn, List.map_append]
      exact (NdsV.app kG (.cons kv .nil)).up ((But.set (p := D2)).tups gD2)
    obtain ⟨gs, gD2, kG, s7⟩ := hp
    rw [List.take_of_length_le (by have := hW6.len; omega)] at kG
    have lg := kG.len
    rw [List.length_map] at lg
    refine nx3 ?_
    -- neighbours
    refine ⟨.ref D2, rfl, .ref D2, rfl, 1, rfl, D2, gs, rfl, .inl (.inl gD2), fun D3 nD3 => ?_⟩
    have lps : 2 ≤ ps.length ∧ ps.length ≤ 3 := by omega
    have lns : gs.length = ns.length := by rw [lg]
    have ec : cutV gs (some (1 : Int)) none = gs.drop 1 := cut_fr gs 1 (by omega)
    rw [ec]
    have s8 := sameN (o := .lst (gs.drop 1)) nD3
    have gD3 : (upd H7 D3 (.lst (gs.drop 1))) D3 = some (.lst (gs.drop 1)) := upd_same
    have gD2' := s8 _ _ gD2
    have kG8 : NdsV K (upd H7 D3 (.lst (gs.drop 1))) gs (ns.map Nd.base) := kG.up (.of (K := K) s8)
    have gD8 := s8 _ _ (s7 _ _ gD)
    have s28 := ((s24.trans s5).trans s7).trans s8
    generalize upd H7 D3 (.lst (gs.drop 1)) = H8 at gD3 gD2' kG8 gD8 s28 ⊢
    have un_no : ∀ {j : Nat} {x y : Nd}, ns[j]? = some x → ns[j + 1]? = some y → x.base = y.base → ¬ NodeD (.tuple [.str "block", .tuple ps]) := fun {j x y} e1 e2 e hn => by
      obtain ⟨_, _, ns2, l2, ok2, un2, e3⟩ := node_blk.mp hn
      have : ns2 = ns := (eqv_datAll ns2 ns).mp (by rw [e3, ← ens]; exact (eqv_datAll ns ns).mpr rfl)
      subst this
      exact unb_get un2 e1 e2 e
    have dep : ∀ n ∈ ns, (dat n).depth ≤ 60 := fun n hn => by
      have : dat n ∈ ps := by
        rw [← ens, datAll_map]
        exact List.mem_map_of_mem hn
      have := dep_in this
      omega
    refine ⟨D2, D3, _, _, rfl, .inl ⟨.inl (.inl gD2'), .inl (.inl gD3), ?_⟩⟩
    refine for_zipU (xs := gs) (ys := gs.drop 1) (fun i σ H' => ∃ y3 y5, σ = [some (.ref a), none, some (.ref D), y3, some (.ref D2), y5] ∧ Same H8 H' ∧ ∀ (j : Nat) x y, j < i → ns[j]? = some x → ns[j + 1]? = some y → x.base ≠ y.base)
      ⟨_, _, rfl, Same.refl _, fun j x y hj => absurd hj (Nat.not_lt_zero _)⟩ (fun i σ H' hp => ?_) (fun i x y T σ H' hx hy hp nT => ?_) (fun i σ H' hp hi => ?_)
    · obtain ⟨_, _, _, s, _⟩ := hp
      exact ⟨.inl (.inl (s _ _ gD2')), .inl (.inl (s _ _ gD3))⟩
    · obtain ⟨y3, y5, rfl, s9, adj⟩ := hp
      rw [List.getElem?_drop] at hy
      have sT := s9.trans (sameN (o := .tup [x, y]) nT)
      have kT := kG8.up (.of (K := K) sT)
      obtain ⟨b1, e1, k1⟩ := kT.get hx
      obtain ⟨b2, e2, k2⟩ := kT.get hy
      rw [List.getElem?_map] at e1 e2
      obtain ⟨n1, en1, rfl⟩ := Option.map_eq_some_iff.mp e1
      obtain ⟨n2, en2, rfl⟩ := Option.map_eq_some_iff.mp e2
      rw [show 1 + i = i + 1 by omega] at en2
      refine ⟨T, _, rfl, .inl (.inl upd_same), rfl, _, _, rfl, _, [], rfl, rfl, ?_⟩
      refine ifs_any (fun b H'' => H'' = upd H' T (.tup [x, y]) ∧ (b = true ↔ n1.base = n2.base)) (fun b H'' hb => ?_) (fun R hR => ⟨x, rfl, y, rfl, _, _, k1, k2, dat_shaped (Nat.le_trans base_depth (dep n1 (List.mem_of_getElem? en1))), dat_shaped (Nat.le_trans base_depth (dep n2 (List.mem_of_getElem? en2))), _, rfl, hR _ _ ⟨rfl, eqv_dat _ _⟩⟩)
      obtain ⟨rfl, hb⟩ := hb
      cases b with
      | true => exact iteT (q _ _ (s28.trans sT) (lv_no (un_no en1 en2 (hb.mp rfl))))
      | false =>
        refine iteF ⟨_, _, rfl, sT, fun j x' y' hj f1 f2 => ?_⟩
        by_cases c : j < i
        · exact adj j x' y' c f1 f2
        · obtain rfl : j = i := by omega
          rw [en1] at f1
          rw [en2] at f2
          cases f1
          cases f2
          exact fun z => Bool.noConfusion (hb.mpr z)
    · obtain ⟨y3, y5, rfl, s9, adj⟩ := hp
      rw [List.length_drop] at hi
      have un : Unb ns := unb_of (by omega) fun j x y e1 e2 => adj j x y (by have := (List.getElem?_eq_some_iff.mp e2).1; omega) e1 e2
      have okB : Ok (.blk ns) (l + 1) := by
        rw [Ok]
        exact ⟨by omega, by omega, by omega, okA, un⟩
      have lv := lv_yes okB (show dat (.blk ns) = .tuple [.str "block", .tuple ps] by rw [dat, ens])
      refine ⟨.ref D, rfl, D, _, 0, .int (l : Nat), rfl, rfl, .inl (.inl (s9 _ _ gD8)), atI_nat (j := 0) (by rw [List.getElem?_map, List.getElem?_map, el]; rfl), _, 1, rfl, rfl, ?_⟩
      have := q _ _ (s28.trans s9) lv
      rw [Int.natCast_add] at this
      exact this
theorem ok_llevel (X : Facts K mg) : ∀ m : Nat, FnOk P w K mg base CX0 (m + 3) X.ul_level X.vl_level ["thing"] (spLvl K m)
  | 0 => ⟨fun vs H Q E h => by obtain ⟨v, d, _, _, h, _⟩ := h; exact absurd h (Nat.not_lt_zero _), fun A outer s H args us vs Q E _ _ _ _ h => by obtain ⟨v, d, _, _, h, _⟩ := h; exact absurd h (Nat.not_lt_zero _)⟩
  | m + 1 => ok_lvl1 X (ok_llevel X m)
end
end C01

set_option Elab.async false
set_option linter.all false
set_option maxRecDepth 100000
namespace C01
open PySem PySem.Spec PyProof.Rows L2 Loc RZ
section
variable {P : Program} {w : World} {K : PySem.W.Frag} {mg : Str → Option Value} {base : Heap}
theorem cons1 {te : TE} {σ : L2.St} {H : Hp} {Q : List V → Hp → Prop} (h : te σ H fun v H' => Q [v] H') : tCons te tNil σ H Q := h
abbrev S2 (p L : Addr) : Addr → Prop := fun b => b = p ∨ b = L
/-- the things so far, at L -/
def Tg (K : PySem.W.Frag) (p L : Addr) (H : Hp) (n : Nat) : Prop := ∃ vs ds, H L = some (.lst vs) ∧ DqAll K (wo (S2 p L) H) vs ds ∧ (∀ d ∈ ds, sm 2 44 3000 d) ∧ ds.length ≤ n
theorem Tg.but {p L : Addr} {H H' : Hp} {n : Nat} (h : Tg K p L H n) (e : But p H H') (ne : L ≠ p) : Tg K p L H' n := by
  obtain ⟨vs, ds, h1, h2, h3, h4⟩ := h
  exact ⟨vs, ds, e.at ne h1, h2.up (But.wo (S := S2 p L) (.inl rfl) e), h3, h4⟩
theorem Tg.same {p L : Addr} {H H' : Hp} {n : Nat} (h : Tg K p L H n) (e : Same H H') : Tg K p L H' n := by
  obtain ⟨vs, ds, h1, h2, h3, h4⟩ := h
  exact ⟨vs, ds, e _ _ h1, h2.up (wo_up e), h3, h4⟩
theorem kp2 {p L : Addr} {H : Hp} {c : Nat} {ys : List V} (hp : Pot H p c) (h : H L = some (.lst ys)) : Kp (S2 p L) H := fun a ha => by
  rcases ha with rfl | rfl
  · exact hp.ls
  · exact ⟨ys, h⟩
theorem Tg.kp {p L : Addr} {H : Hp} {c n : Nat} (h : Tg K p L H n) (hp : Pot H p c) : Kp (S2 p L) H := let ⟨_, _, e, _⟩ := h; kp2 hp e
/-- things.append(x) -/
theorem app_tg {p L : Addr} {H : Hp} {n : Nat} {v : V} {d : PyData} {Q : VK} (h : Tg K p L H n) (hn : n ≤ 1000) (hv : Dq K (wo (S2 p L) H) v d) (hd : sm 2 44 3000 d) (q : ∀ H', Tg K p L H' (n + 1) → (∀ b, b ≠ L → H' b = H b) → Q .non H') : rAppend (.ref L) [v] H Q := by
  obtain ⟨vs, ds, h1, h2, h3, h4⟩ := h
  have l := h2.len
  refine ⟨L, vs, v, rfl, rfl, h1, line5 (by omega), q _ ⟨vs ++ [v], ds ++ [d], upd_same, (h2.app (.cons hv .nil)).up (wo_set (.inr rfl)), fun x hx => ?_, by rw [List.length_append]; exact Nat.succ_le_succ h4⟩ fun b hb => upd_ne hb⟩
  rcases List.mem_append.mp hx with hx | hx
  · exact h3 x hx
  · rw [List.mem_singleton.mp hx]
    exact hd
theorem wo_f {S : Addr → Prop} {L : Addr} {H H' : Hp} (f : ∀ b, b ≠ L → H' b = H b) (hL : S L := by first | exact .inr rfl | assumption) : Same (wo S H) (wo S H') := fun b u e => by
  by_cases z : S b
  · rw [wo_in z] at e
    cases e
  · rw [wo_ne z] at e ⊢
    rw [f b (fun q => z (by rw [q]; exact hL))]
    exact e
theorem wo_xt {S : Addr → Prop} {p D : Addr} {H H' : Hp} (b : But p H H') (n : H D = none) (hp : S p := by first | exact .inl rfl | assumption) : Same (wo S H) (wo (fun b => S b ∨ b = D) H') := fun c u e => by
  by_cases z : S c
  · rw [wo_in z] at e
    cases e
  · rw [wo_ne z] at e
    have nc : c ≠ D := fun q => by rw [q, n] at e; cases e
    rw [wo_ne (fun t => t.elim z nc)]
    exact b c u (fun q => z (by rw [q]; exact hp)) e
theorem tr_f {H H1 H2 : Hp} {L : Addr} (s : Same H H1) (f : ∀ b, b ≠ L → H2 b = H1 b) (n : H L = none) : Same H H2 := fun b o e => by
  rw [f b (ne_of_none e n)]
  exact s b o e
theorem tr_b {H H1 H2 : Hp} {p : Addr} (s : Same H H1) (f : But p H1 H2) (n : H p = none) : Same H H2 := fun b o e => f b o (ne_of_none e n) (s b o e)
/-- things.extend(..) -/
theorem ext_tg {p L D : Addr} {H : Hp} {n m : Nat} {us : List V} {es : List PyData} {Q : VK} (h : Tg K p L H n) (hn : n ≤ 1000) (hD : H D = some (.lst us)) (nD : D ≠ L) (hv : DqAll K (wo (S2 p L) H) us es) (hd : ∀ d ∈ es, sm 2 44 3000 d) (lm : es.length ≤ m) (hm : m ≤ 1000 := by decide) (q : ∀ H', Tg K p L H' (n + m) → (∀ b, b ≠ L → H' b = H b) → Q .non H') : rExtend (.ref L) [.ref D] H Q := by
  obtain ⟨vs, ds, h1, h2, h3, h4⟩ := h
  have l := h2.len
  have lu := hv.len
  refine ⟨L, D, vs, us, rfl, rfl, h1, hD, small_line (by omega), q _ ⟨vs ++ us, ds ++ es, upd_same, (h2.app hv).up (wo_set (.inr rfl)), fun x hx => ?_, by rw [List.length_append]; exact Nat.add_le_add h4 lm⟩ fun b hb => upd_ne hb⟩
  rcases List.mem_append.mp hx with hx | hx
  · exact h3 x hx
  · exact hd x hx
/-- things + [..] -/
theorem cat_tg {p L l2 : Addr} {H : Hp} {n m c : Nat} {us : List V} {es : List PyData} {Q : VK} (h : Tg K p L H n) (hp : Pot H p c) (hn : n + m ≤ 1000) (g : H l2 = some (.lst us)) (k : DqAll K (wo (fun b => b = p) H) us es) (hd : ∀ d ∈ es, sm 2 44 3000 d) (lm : es.length ≤ m)
    (q : ∀ L' H', Same H H' → L' ≠ p → H L' = none → Tg K p L' H' (n + m) → Q (.ref L') H') : rCat (.ref L) (.ref l2) H Q := by
  obtain ⟨vs, ds, h1, h2, h3, h4⟩ := h
  have l := h2.len
  have lu := k.len
  refine ⟨L, l2, vs, us, rfl, rfl, h1, g, Nat.le_trans (show vs.length + us.length ≤ 1000 by omega) (by decide), fun L' nL' => q L' _ (sameN nL') (hp.ne nL') nL' ⟨vs ++ us, ds ++ es, upd_same, ?_, fun x hx => ?_, by rw [List.length_append]; exact Nat.add_le_add h4 lm⟩⟩
  · exact ((h2.up (wo_less fun b hb => .inl hb)).app k).up (wo_add (fun b hb => hb) nL')
  · rcases List.mem_append.mp hx with hx | hx
    · exact h3 x hx
    · exact hd x hx
mutual
def noL : PyData → Bool
  | .list _ => false
  | .tuple xs => noLAll xs
  | .dict _ => false
  | _ => true
def noLAll : List PyData → Bool
  | [] => true
  | x :: r => noL x && noLAll r
end
mutual
theorem noL_dat : ∀ n : Nd, noL (dat n) = true
  | .el k => by
    rw [dat]
    rfl
  | .run b c => by
    rw [dat, noL, noLAll, noLAll, noLAll, noLAll, noL_dat b]
    rfl
  | .blk ps => by
    rw [dat, noL, noLAll, noLAll, noLAll, noL, noL_datAll ps]
    rfl
theorem noL_datAll : ∀ ps : List Nd, noLAll (datAll ps) = true
  | [] => by rw [datAll, noLAll]
  | n :: r => by rw [datAll, noLAll, noL_dat n, noL_datAll r]; rfl
end
mutual
/-- plain data beside lists that may change -/
theorem dq_wo {S : Addr → Prop} {H : Hp} (hp : Kp S H) : ∀ {v : V} {d : PyData}, Dp K H v d → noL d = true → Dq K (wo S H) v d
  | _, _, .non, _ => .non
  | _, _, .bl b, _ => .bl b
  | _, _, .int i, _ => .int i
  | _, _, .str x, _ => .str x
  | _, _, .lst h t, e => by rw [noL] at e; cases e
  | _, _, .tup h t, e => .tup (sqt_wo hp h) (dqA_wo hp t (by rw [noL] at e; exact e))
theorem dqA_wo {S : Addr → Prop} {H : Hp} (hp : Kp S H) : ∀ {vs : List V} {ds : List PyData}, DpAll K H vs ds → noLAll ds = true → DqAll K (wo S H) vs ds
  | _, _, .nil, _ => .nil
  | _, _, .cons h t, e => by
    rw [noLAll, Bool.and_eq_true] at e
    exact .cons (dq_wo hp h e.1) (dqA_wo hp t e.2)
end
def e60 : Int := (10 : Int) ^ (60 : Int).toNat
def e9 : Int := (10 : Int) ^ (9 : Int).toNat
def C1 : List PyData := [.int 0, .int e9, .int (e9 + 1), .int (-1), .tuple [.str "run", .int 7, .int e60], .tuple [.str "run", .int 7, .int (e60 + 1)]]
def C2 : PyData := .tuple [.str "run", .tuple [.str "run", .int 7, .int 2], .int 2]
def C3 : List PyData := [.tuple [.str "block", .tuple [.int 1, .tuple [.str "run", .int 1, .int 2]]], .tuple [.str "block", .tuple [.tuple [.str "run", .int 1, .int 2], .tuple [.str "run", .int 1, .int 3]]], .tuple [.str "block", .tuple [.int 1]]]
def C4 : List PyData := [.tuple [.str "block", .tuple [.int 1, .int 2, .int 3, .int 4]], .tuple [.str "block", .tuple [.int 1, .tuple [.str "block", .tuple [.int 1, .int 2]]]], .tuple [.str "block", .list [.int 1, .int 2]]]
def C5 : PyData := .tuple [.str "block", .tuple []]
def C6 (x y : PyData) : List PyData := [.tuple [.str "block", .tuple [x, y]], .tuple [.str "block", .tuple [x, x]], .tuple [.str "block", .tuple [x, .tuple [.str "run", x, .int 2]]]]
def C7 (x y : PyData) : List PyData := [.tuple [.str "run", .tuple [.str "run", y, .int 2], .int 3], .tuple [.str "block", .tuple [y, .tuple [.str "run", x, .int 2], y]]]
theorem C_sm : ∀ d ∈ C1 ++ [C2] ++ C3 ++ C4 ++ [C5], sm 2 44 3000 d := by
  have h : (C1 ++ [C2] ++ C3 ++ C4 ++ [C5]).all (smB 2 44 3000) = true := by decide +kernel
  intro d hd
  exact sm_of (List.all_eq_true.mp h d hd)
theorem T_sm (l : Nat) (hl : l = 5 ∨ l = 6) : (∀ d ∈ C6 (dat (tw l).1) (dat (tw l).2), sm 2 44 3000 d) ∧ ∀ d ∈ C7 (dat (tw l).1) (dat (tw l).2), sm 2 44 3000 d := by
  have h5 : ((C6 (dat (tw 5).1) (dat (tw 5).2)).all (smB 2 44 3000) && (C7 (dat (tw 5).1) (dat (tw 5).2)).all (smB 2 44 3000)) = true := by decide +kernel
  have h6 : ((C6 (dat (tw 6).1) (dat (tw 6).2)).all (smB 2 44 3000) && (C7 (dat (tw 6).1) (dat (tw 6).2)).all (smB 2 44 3000)) = true := by decide +kernel
  rcases hl with rfl | rfl
  · rw [Bool.and_eq_true] at h5
    exact ⟨fun d hd => sm_of (List.all_eq_true.mp h5.1 d hd), fun d hd => sm_of (List.all_eq_true.mp h5.2 d hd)⟩
  · rw [Bool.and_eq_true] at h6
    exact ⟨fun d hd => sm_of (List.all_eq_true.mp h6.1 d hd), fun d hd => sm_of (List.all_eq_true.mp h6.2 d hd)⟩
theorem bn_s1 {d d' : PyData} (h : sm 0 10 370 d) (b : bn 0 d d') : sm 1 24 940 d' := ⟨b.1, by have := b.2.1; have := h.2.1; omega, by have := b.2.2; have := h.2.2; omega⟩
theorem bn_s2 {d d' : PyData} (h : sm 1 24 940 d) (b : bn 1 d d') : sm 2 44 3000 d' := ⟨b.1, by have := b.2.1; have := h.2.1; omega, by have := b.2.2; have := h.2.2; omega⟩
theorem gn {i : Nat} {v : V} {σ : L2.St} {H : Hp} {k : L2.St → Hp → Prop} (h : k (σ.set i (some v)) H) : gName i v σ H k := h
theorem none_of {H H' : Hp} {b : Addr} (s : Same H H') (n : H' b = none) : H b = none := by
  cases z : H b with
  | none => rfl
  | some o =>
    rw [s _ _ z] at n
    cases n
/-- the things so far, at L, since H1 -/
def Sx (K : PySem.W.Frag) (p L : Addr) (H1 H : Hp) (n c : Nat) : Prop := Same H1 H ∧ Pot H p c ∧ L ≠ p ∧ H1 L = none ∧ Tg K p L H n
theorem Sx.same {p L : Addr} {H1 H H' : Hp} {n c : Nat} (h : Sx K p L H1 H n c) (s : Same H H') : Sx K p L H1 H' n c := ⟨h.1.trans s, h.2.1.same s, h.2.2.1, h.2.2.2.1, h.2.2.2.2.same s⟩
theorem Sx.but {p L : Addr} {H1 H H' : Hp} {n c c' : Nat} (h : Sx K p L H1 H n c) (np : H1 p = none) (b : But p H H') (hp : Pot H' p c') : Sx K p L H1 H' n c' := ⟨tr_b h.1 b np, hp, h.2.2.1, h.2.2.2.1, h.2.2.2.2.but b h.2.2.1⟩
theorem Sx.kp {p L : Addr} {H1 H : Hp} {n c : Nat} (h : Sx K p L H1 H n c) : Kp (S2 p L) H := h.2.2.2.2.kp h.2.1
theorem Sx.kp1 {p L : Addr} {H1 H : Hp} {n c : Nat} (h : Sx K p L H1 H n c) : Kp (fun b => b = p) H := fun b hb => by
  rw [hb]
  exact h.2.1.ls
theorem Sx.ls {p L : Addr} {H1 H : Hp} {n c : Nat} (h : Sx K p L H1 H n c) : ∃ ys, H L = some (.lst ys) := let ⟨vs, _, e, _⟩ := h.2.2.2.2; ⟨vs, e⟩
theorem sx_app {p L : Addr} {H1 H : Hp} {n c : Nat} {v : V} {d : PyData} {Q : VK} (h : Sx K p L H1 H n c) (hn : n ≤ 1000) (hv : Dq K (wo (S2 p L) H) v d) (hd : sm 2 44 3000 d) (q : ∀ H', Sx K p L H1 H' (n + 1) c → (∀ b, b ≠ L → H' b = H b) → Q .non H') : rAppend (.ref L) [v] H Q :=
  app_tg h.2.2.2.2 hn hv hd fun H' tg f => q H' ⟨tr_f h.1 f h.2.2.2.1, (by
    obtain ⟨o', e', r'⟩ := h.2.1
    exact ⟨o', by rw [f p h.2.2.1.symm]; exact e', r'⟩), h.2.2.1, h.2.2.2.1, tg⟩ f
theorem sx_cat {p L l2 : Addr} {H1 H : Hp} {n m c : Nat} {us : List V} {es : List PyData} {Q : VK} (h : Sx K p L H1 H n c) (hn : n + m ≤ 1000) (g : H l2 = some (.lst us)) (k : DqAll K (wo (fun b => b = p) H) us es) (hd : ∀ d ∈ es, sm 2 44 3000 d) (lm : es.length ≤ m)
    (q : ∀ L' H', Same H H' → Sx K p L' H1 H' (n + m) c → Q (.ref L') H') : rCat (.ref L) (.ref l2) H Q :=
  cat_tg h.2.2.2.2 h.2.1 hn g k hd lm fun L' H' s ne nL tg => q L' H' s ⟨h.1.trans s, h.2.1.same s, ne, none_of h.1 nL, tg⟩
/-- the first things -/
theorem sx_new {p : Addr} {H1 H : Hp} {c n : Nat} {σ : L2.St} {ta : TA} {ds : List PyData} {Q : VK} (s : Same H1 H) (hp : Pot H p c) (h : MQs K (fun b => b = p) σ H ta ds) (l : ds.length ≤ n) (hn : n ≤ 1000) (hd : ∀ d ∈ ds, sm 2 44 3000 d)
    (q : ∀ L H', Same H H' → Sx K p L H1 H' n c → Q (.ref L) H') : tLst ta σ H Q :=
  h H _ (Same.refl H) fun H2 vs s2 k2 => ⟨Nat.le_trans (by rw [k2.len]; exact Nat.le_trans l hn) (by decide), fun L nL => by
    have hp2 := hp.same s2
    exact q L _ (s2.trans (sameN nL)) ⟨(s.trans s2).trans (sameN nL), hp2.new nL, hp2.ne nL, none_of (s.trans s2) nL, vs, ds, upd_same, k2.up (wo_add (fun b hb => hb) nL), hd, l⟩⟩
abbrev nmLaw : List Str := ["script", "k", "pot", "things", "level", "one", "other", "turn", "node", "again", "thing", "kept", "due"]
theorem scLaw : FnScope nmLaw ["script"] (defScope sLaw) := ⟨rfl, rfl, rfl, by decide +kernel, rfl, by decide +kernel, by decide +kernel⟩
def spLaw (K : PySem.W.Frag) : Sp := fun vs H Q _ => ∃ (a : Addr) (ns : List Int), vs = [.ref a] ∧ SqL K H a (ns.map V.int) ∧ ns.length ≤ 63 ∧ ∀ H', Q (.bl true) H'
set_option maxHeartbeats 0 in
theorem ok_law {f : Addr} {fd : FuncData} (F : Fun K "law" "law" sLaw f fd) (X : Facts K mg) : FnG P w K mg base CX0 100 f fd ["script"] (spLaw K) := by
  have GP : FnOk P w K mg base CX0 1 X.ul_pot X.vl_pot ["script", "k"] (spPot K) := ok_pot X.fl_pot X.len X.abs X.int
  have GB : FnOk P w K mg base CX0 30 X.ul_bent X.vl_bent ["pot", "thing"] (spBent K 26) := ok_bent X.fl_bent X.gl_bent X.bl_bent X.fl_take X.gl_take X.bl_take X.fl_of X.gl_of X.bl_of X.fl_odd X.gl_odd X.bl_odd X.len X.range X.isinstance X.tuple X.int X.str X.list 26
  have GO : FnOk P w K mg base CX0 3 X.ul_odd X.vl_odd ["pot", "deep"] (spOdd K) := ok_odd X.fl_odd X.fl_take X.gl_take X.bl_take X.fl_of X.gl_of X.bl_of X.len X.range
  have GT : FnOk P w K mg base CX0 8 X.ul_twins X.vl_twins ["level"] (spTwins K 7) := ok_twins X.fl_twins X.gl_twins X.bl_twins 7
  have GF : GenF K mg X.ul_take X.ul_of X.ul_ground X.ul_leaf X.ul_row X.ul_block X.ul_twins X.ul_unlike X.vl_take X.vl_of X.vl_ground X.vl_leaf X.vl_row X.vl_block X.vl_twins X.vl_unlike :=
    { T := X.fl_take, O := X.fl_of, G := X.fl_ground, L := X.fl_leaf, R := X.fl_row, B := X.fl_block, W := X.fl_twins, U := X.fl_unlike, gT := X.gl_take, gO := X.gl_of, gG := X.gl_ground, gL := X.gl_leaf, gR := X.gl_row, gB := X.gl_block, gW := X.gl_twins, gU := X.gl_unlike,
      bT := X.bl_take, bO := X.bl_of, bG := X.bl_ground, bL := X.bl_leaf, bR := X.bl_row, bB := X.bl_block, bW := X.bl_twins, bU := X.bl_unlike, len := X.len, tuple := X.tuple, isinstance := X.isinstance }
  have GR : FnOk P w K mg base CX0 11 X.ul_row X.vl_row ["pot", "level", "many"] (spRow K 4) := gen_row GF 4
  have GL : FnOk P w K mg base CX0 48 X.ul_level X.vl_level ["thing"] (spLvl K 45) := ok_llevel X 45
  have GN : FnOk P w K mg base CX0 96 X.uis_node X.vis_node ["value"] (spNodeQ K 45) := ok_nodeQ X 45
  refine fun_okG F scLaw (fun vs H Q E h => ?_) (fun cdv A outer s H vs Q E hg hr h => ?_)
  · obtain ⟨a, ns, rfl, _⟩ := h
    rfl
  · obtain ⟨a, ns, rfl, hS, hlen, q⟩ := h
    have r1 := hr.mono (j := 1) (by omega)
    have r3 := hr.mono (j := 3) (by omega)
    have r8 := hr.mono (j := 8) (by omega)
    have r11 := hr.mono (j := 11) (by omega)
    have r30 := hr.mono (j := 30) (by omega)
    have r48 := hr.mono (j := 48) (by omega)
    have r96 := hr.mono (j := 96) (by omega)
    refine ⟨_, pss_cons (ps_for PassesOwn.never rfl (pi_range1 (by rfl) X.range (pa_cons (pe_callB (L2.call_max2 rfl) (by rfl) X.max (by decide +kernel) (pa_cons pe_int (pa_cons (pe_callB (L2.call_min2 rfl) (by rfl) X.min (by decide +kernel)
            (pa_cons pe_int (pa_cons (pe_callB call_len_seq (by rfl) X.len PySem.boot_len (pa_cons (pv 0) pa_nil)) pa_nil))) pa_nil))) pa_nil)) (pg_name (i := 1) scLaw.nd rfl (.inl rfl))
        (pss_cons (ps_set (i := 2) scLaw.nd rfl (.inr rfl) (pe_call GP r1 (by rfl) X.gl_pot X.fl_pot.kp X.bl_pot .nil pass0 (pa_cons (pv 0) (pa_cons (pv 1) pa_nil))))
        (pss_cons (ps_set (i := 3) scLaw.nd rfl (.inl rfl) (pe_lst (pa_cons pe_int (pa_cons (pe_op op_pow pe_int pe_int) (pa_cons (pe_op op_add (pe_op op_pow pe_int pe_int) pe_int) (pa_cons (pe_un un_neg pe_int)
            (pa_cons (pe_tup (pa_cons pe_str (pa_cons pe_int (pa_cons (pe_op op_pow pe_int pe_int) pa_nil)))) (pa_cons (pe_tup (pa_cons pe_str (pa_cons pe_int (pa_cons (pe_op op_add (pe_op op_pow pe_int pe_int) pe_int) pa_nil)))) pa_nil))))))))
        (pss_cons (ps_expr (pe_bm PySem.F.plainAttrs_list PySem.F.slot_list_append PySem.F.type_list_append mt_append (pv 3) (pa_cons (pe_tup (pa_cons pe_str (pa_cons (pe_tup (pa_cons pe_str (pa_cons pe_int (pa_cons pe_int pa_nil)))) (pa_cons pe_int pa_nil)))) pa_nil)))
        (pss_cons (ps_set (i := 3) scLaw.nd rfl (.inl rfl) (pe_op op_cat (pv 3) (pe_lst (pa_cons (pe_tup (pa_cons pe_str (pa_cons (pe_tup (pa_cons pe_int (pa_cons (pe_tup (pa_cons pe_str (pa_cons pe_int (pa_cons pe_int pa_nil)))) pa_nil))) pa_nil)))
            (pa_cons (pe_tup (pa_cons pe_str (pa_cons (pe_tup (pa_cons (pe_tup (pa_cons pe_str (pa_cons pe_int (pa_cons pe_int pa_nil)))) (pa_cons (pe_tup (pa_cons pe_str (pa_cons pe_int (pa_cons pe_int pa_nil)))) pa_nil))) pa_nil)))
            (pa_cons (pe_tup (pa_cons pe_str (pa_cons (pe_tup (pa_cons pe_int pa_nil)) pa_nil))) pa_nil))))))
        (pss_cons (ps_set (i := 3) scLaw.nd rfl (.inl rfl) (pe_op op_cat (pv 3) (pe_lst (pa_cons (pe_tup (pa_cons pe_str (pa_cons (pe_tup (pa_cons pe_int (pa_cons pe_int (pa_cons pe_int (pa_cons pe_int pa_nil))))) pa_nil)))
            (pa_cons (pe_tup (pa_cons pe_str (pa_cons (pe_tup (pa_cons pe_int (pa_cons (pe_tup (pa_cons pe_str (pa_cons (pe_tup (pa_cons pe_int (pa_cons pe_int pa_nil))) pa_nil))) pa_nil))) pa_nil)))
            (pa_cons (pe_tup (pa_cons pe_str (pa_cons (pe_lst (pa_cons pe_int (pa_cons pe_int pa_nil))) pa_nil))) pa_nil))))))
        (pss_cons (ps_expr (pe_bm PySem.F.plainAttrs_list PySem.F.slot_list_append PySem.F.type_list_append mt_append (pv 3) (pa_cons (pe_tup (pa_cons pe_str (pa_cons (pe_tup pa_nil) pa_nil))) pa_nil)))
        (pss_cons (ps_for PassesOwn.never rfl (pi_tup (pe_tup (pa_cons pe_int (pa_cons pe_int pa_nil)))) (pg_name (i := 4) scLaw.nd rfl (.inl rfl))
          (pss_cons (ps_asg (pe_call GT r8 (by rfl) X.gl_twins X.fl_twins.kp X.bl_twins .nil pass0 (pa_cons (pv 4) pa_nil)) (pg_tup rfl (pgs_cons (pg_name (i := 5) scLaw.nd rfl (.inl rfl)) (pgs_cons (pg_name (i := 6) scLaw.nd rfl (.inl rfl)) pgs_nil))))
          (pss_cons (ps_set (i := 3) scLaw.nd rfl (.inl rfl) (pe_op op_cat (pv 3) (pe_lst (pa_cons (pe_tup (pa_cons pe_str (pa_cons (pe_tup (pa_cons (pv 5) (pa_cons (pv 6) pa_nil))) pa_nil))) (pa_cons (pe_tup (pa_cons pe_str (pa_cons (pe_tup (pa_cons (pv 5) (pa_cons (pv 5) pa_nil))) pa_nil)))
            (pa_cons (pe_tup (pa_cons pe_str (pa_cons (pe_tup (pa_cons (pv 5) (pa_cons (pe_tup (pa_cons pe_str (pa_cons (pv 5) (pa_cons pe_int pa_nil)))) pa_nil))) pa_nil))) pa_nil))))))
          (pss_one (ps_set (i := 3) scLaw.nd rfl (.inl rfl) (pe_op op_cat (pv 3) (pe_lst (pa_cons (pe_tup (pa_cons pe_str (pa_cons (pe_tup (pa_cons pe_str (pa_cons (pv 6) (pa_cons pe_int pa_nil)))) (pa_cons pe_int pa_nil))))
            (pa_cons (pe_tup (pa_cons pe_str (pa_cons (pe_tup (pa_cons (pv 6) (pa_cons (pe_tup (pa_cons pe_str (pa_cons (pv 5) (pa_cons pe_int pa_nil)))) (pa_cons (pv 6) pa_nil)))) pa_nil))) pa_nil)))))))))
        (pss_cons (ps_for PassesOwn.never rfl (pi_range1 (by rfl) X.range (pa_cons pe_int pa_nil)) (pg_name (i := 7) scLaw.nd rfl (.inl rfl))
          (pss_cons (ps_set (i := 8) scLaw.nd rfl (.inr rfl) (pe_ix ix_list (pe_call GR r11 (by rfl) X.gl_row X.fl_row.kp X.bl_row .nil pass0 (pa_cons (pv 2) (pa_cons (pe_op op_mod (pv 7) pe_int) (pa_cons pe_int pa_nil)))) pe_int (fun _ _ => rfl)))
          (pss_cons (ps_expr (pe_bm PySem.F.plainAttrs_list PySem.F.slot_list_append PySem.F.type_list_append mt_append (pv 3) (pa_cons (pv 8) pa_nil)))
          (pss_cons (ps_expr (pe_bm PySem.F.plainAttrs_list PySem.F.slot_list_extend PySem.F.type_list_extend mt_extend (pv 3) (pa_cons
            (pe_lc (own := [("again", 9)]) (g := gName 9) (tt := tYes) (te := tCall (spBent K 26) [] E0 (tCons (tVar 2) (tCons (tVar 8) tNil))) rfl scLaw.nd (pi_range1 (by rfl) X.range (pa_cons pe_int pa_nil)) (blkOk_by (N := nmLaw) (sc := defScope sLaw) (by decide +kernel))
              (fun _ _ _ _ _ => pg_name (i := 9) scLaw.nd rfl (Or.inl rfl)) (fun _ _ _ _ _ => pts_nil) (fun _ _ _ _ _ => pe_call GB r30 (by rfl) X.gl_bent X.fl_bent.kp X.bl_bent .nil pass0 (pa_cons (pv 2) (pa_cons (pv 8) pa_nil)))) pa_nil)))
          (pss_cons (ps_expr (pe_bm PySem.F.plainAttrs_list PySem.F.slot_list_append PySem.F.type_list_append mt_append (pv 3) (pa_cons (pe_call GB r30 (by rfl) X.gl_bent X.fl_bent.kp X.bl_bent .nil pass0 (pa_cons (pv 2)
              (pa_cons (pe_call GB r30 (by rfl) X.gl_bent X.fl_bent.kp X.bl_bent .nil pass0 (pa_cons (pv 2) (pa_cons (pv 8) pa_nil))) pa_nil))) pa_nil)))
          (pss_one (ps_expr (pe_bm PySem.F.plainAttrs_list PySem.F.slot_list_append PySem.F.type_list_append mt_append (pv 3) (pa_cons (pe_call GO r3 (by rfl) X.gl_odd X.fl_odd.kp X.bl_odd .nil pass0 (pa_cons (pv 2) (pa_cons pe_int pa_nil))) pa_nil)))))))))
        (pss_one (ps_for PassesOwn.never rfl (pi_list (pv 3)) (pg_name (i := 10) scLaw.nd rfl (.inl rfl))
          (pss_cons (ps_par (i := 11) (j := 12) (by rfl) scLaw.nd rfl rfl (by decide) rfl rfl (pa_cons (pe_callB (call_repQ hr hg) (by rfl) X.repr PyProof.Rows.boot_repr (pa_cons (pv 10) pa_nil))
              (pa_cons (pe_cmpR op_notN (pe_call GL r48 (by rfl) X.gl_level X.fl_level.kp X.bl_level .nil pass0 (pa_cons (pv 10) pa_nil)) pe_non (nomark _)) pa_nil)) (by rfl))
          (pss_one (ps_if (PW.pt (pw_or (pt_cmpR op_ne (pe_callB (call_repQ hr hg) (by rfl) X.repr PyProof.Rows.boot_repr (pa_cons (pe_call GN r96 (by rfl) X.gis_node X.fis_node.kp X.bis_node .nil pass0 (pa_cons (pv 10) pa_nil)) pa_nil))
                (pe_callB (call_repQ hr hg) (by rfl) X.repr PyProof.Rows.boot_repr (pa_cons (pv 12) pa_nil)) (nomark _))
              (pw_or1 (pt_cmpR op_ne (pe_callB (call_repQ hr hg) (by rfl) X.repr PyProof.Rows.boot_repr (pa_cons (pv 10) pa_nil)) (pv 11) (nomark _)))))
            (pss_one (ps_ret pe_bl)) pss_nil))))))))))))))
      (pss_one (ps_ret pe_bl)), ?_⟩
    refine ⟨.ref a, rfl, a, _, rfl, .inl hS, 3, _, rfl, 1, _, rfl, _, rfl, ?_, ?_, ?_⟩
    · show -(2 ^ 62) ≤ (if (if (((ns.map V.int).length : Nat) : Int) < 3 then (((ns.map V.int).length : Nat) : Int) else 3) > 1 then (if (((ns.map V.int).length : Nat) : Int) < 3 then (((ns.map V.int).length : Nat) : Int) else 3) else 1)
      split <;> (try split) <;> omega
    · show (if (if (((ns.map V.int).length : Nat) : Int) < 3 then (((ns.map V.int).length : Nat) : Int) else 3) > 1 then (if (((ns.map V.int).length : Nat) : Int) < 3 then (((ns.map V.int).length : Nat) : Int) else 3) else 1) < 2 ^ 62
      split <;> (try split) <;> omega
    have turns : (if (if (((ns.map V.int).length : Nat) : Int) < 3 then (((ns.map V.int).length : Nat) : Int) else 3) > 1 then (if (((ns.map V.int).length : Nat) : Int) < 3 then (((ns.map V.int).length : Nat) : Int) else 3) else 1).toNat ≤ 3 := by
      split <;> (try split) <;> omega
    refine for_range (fun i σ H' => ∃ y1 y2 y3 y4 y5 y6 y7 y8 y9 y10 y11 y12, σ = [some (.ref a), y1, y2, y3, y4, y5, y6, y7, y8, y9, y10, y11, y12] ∧ Same H H') ⟨none, none, none, none, none, none, none, none, none, none, none, none, rfl, Same.refl H⟩ (fun k σ H1 hk hp => ?_) (fun σ H' hp => ?_)
    rotate_left
    · exact q H'
    obtain ⟨y1, y2, y3, y4, y5, y6, y7, y8, y9, y10, y11, y12, rfl, smH⟩ := hp
    have hk3 : k < 3 := Nat.lt_of_lt_of_le hk turns
    refine ⟨.ref a, rfl, _, rfl, a, ns, k, ?_, smH.seq hS, by omega, by omega, fun p o np po => ?_⟩
    · show [V.ref a, V.int (0 + (k : Int))] = _
      rw [Int.zero_add]
    have p2 : Pot (upd H1 p o) p 0 := Pot.put po
    have kp2 : Kp (fun b => b = p) (upd H1 p o) := fun b hb => by
      rw [hb]
      exact p2.ls
    have s12 : Same H1 (upd H1 p o) := sameN np
    generalize upd H1 p o = H2 at p2 kp2 s12 ⊢
    have inC : ∀ d, d ∈ C1 ∨ d = C2 ∨ d ∈ C3 ∨ d ∈ C4 ∨ d = C5 → sm 2 44 3000 d := fun d hd => C_sm d (by
      simp only [List.mem_append, List.mem_singleton]
      rcases hd with h | h | h | h | h
      · exact .inl (.inl (.inl (.inl h)))
      · exact .inl (.inl (.inl (.inr h)))
      · exact .inl (.inl (.inr h))
      · exact .inl (.inr h)
      · exact .inr h)
    refine nx3 ?_
    refine seq_asg ?_
    refine sx_new (K := K) (ds := C1) (n := 6) s12 p2 ?mq1 (by decide) (by decide) (fun d hd => inC d (.inl hd)) fun L1 H3 s3 x3 => ?_
    case mq1 =>
      exact MQs.cons (.int _) (.cons (.ofInt fun H Q q => ⟨10, 9, rfl, rfl, ⟨by decide, by decide, by decide⟩, q⟩) (.cons (.ofInt fun H Q q => ⟨10, 9, rfl, rfl, ⟨by decide, by decide, by decide⟩, _, 1, rfl, rfl, q⟩) (.cons (.ofInt fun H Q q => ⟨_, rfl, q⟩)
        (.cons (.tup kp2 (.cons (.str _) (.cons (.int _) (.cons (.ofInt fun H Q q => ⟨10, 60, rfl, rfl, ⟨by decide, by decide, by decide⟩, q⟩) .nil))) (by decide))
        (.cons (.tup kp2 (.cons (.str _) (.cons (.int _) (.cons (.ofInt fun H Q q => ⟨10, 60, rfl, rfl, ⟨by decide, by decide, by decide⟩, _, 1, rfl, rfl, q⟩) .nil))) (by decide)) .nil)))))
    -- a run of a run
    refine gn ?_
    obtain ⟨ys3, g3⟩ := x3.ls
    refine ⟨.ref L1, rfl, .inl ⟨rfl, _, .inl (.inl g3)⟩, ?_⟩
    refine cons1 ?_
    refine (show MQ K (S2 p L1) _ H3 _ C2 from .tup x3.kp (.cons (.str _) (.cons (.tup x3.kp (.cons (.str _) (.cons (.int _) (.cons (.int _) .nil))) (by decide)) (.cons (.int _) .nil))) (by decide)) H3 _ (Same.refl H3) fun H4 v4 s4 k4 => ?_
    refine sx_app (x3.same s4) (by decide) k4 (inC _ (.inr (.inl rfl))) fun H5 x5 f5 => ?_
    refine nx_of ?_
    refine seq_asg ?_
    refine ⟨.ref L1, rfl, ?_⟩
    refine lst_new (K := K) (S := fun b => b = p) (ds := C3) x5.kp1 ?mq2 (show 3 ≤ 1000 by decide) fun H6 l6 vs6 s6 n6 e6 k6 ne6 => ?_
    case mq2 =>
      exact MQs.cons (.tup x5.kp1 (.cons (.str _) (.cons (.tup x5.kp1 (.cons (.int _) (.cons (.tup x5.kp1 (.cons (.str _) (.cons (.int _) (.cons (.int _) .nil))) (by decide)) .nil)) (by decide)) .nil)) (by decide))
        (.cons (.tup x5.kp1 (.cons (.str _) (.cons (.tup x5.kp1 (.cons (.tup x5.kp1 (.cons (.str _) (.cons (.int _) (.cons (.int _) .nil))) (by decide)) (.cons (.tup x5.kp1 (.cons (.str _) (.cons (.int _) (.cons (.int _) .nil))) (by decide)) .nil)) (by decide)) .nil)) (by decide))
        (.cons (.tup x5.kp1 (.cons (.str _) (.cons (.tup x5.kp1 (.cons (.int _) .nil) (by decide)) .nil)) (by decide)) .nil))
    refine sx_cat (m := 3) (x5.same s6) (by decide) e6 k6 (fun d hd => inC d (.inr (.inr (.inl hd)))) (by decide) fun L7 H7 s7 x7 => ?_
    refine gn ?_
    refine seq_asg ?_
    refine ⟨.ref L7, rfl, ?_⟩
    refine lst_new (K := K) (S := fun b => b = p) (ds := C4) x7.kp1 ?mq3 (show 3 ≤ 1000 by decide) fun H8 l8 vs8 s8 n8 e8 k8 ne8 => ?_
    case mq3 =>
      exact MQs.cons (.tup x7.kp1 (.cons (.str _) (.cons (.tup x7.kp1 (.cons (.int _) (.cons (.int _) (.cons (.int _) (.cons (.int _) .nil)))) (by decide)) .nil)) (by decide))
        (.cons (.tup x7.kp1 (.cons (.str _) (.cons (.tup x7.kp1 (.cons (.int _) (.cons (.tup x7.kp1 (.cons (.str _) (.cons (.tup x7.kp1 (.cons (.int _) (.cons (.int _) .nil)) (by decide)) .nil)) (by decide)) .nil)) (by decide)) .nil)) (by decide))
        (.cons (.tup x7.kp1 (.cons (.str _) (.cons (.lst x7.kp1 (.cons (.int _) (.cons (.int _) .nil)) (by decide)) .nil)) (by decide)) .nil))
    refine sx_cat (m := 3) (x7.same s8) (by decide) e8 k8 (fun d hd => inC d (.inr (.inr (.inr (.inl hd))))) (by decide) fun L9 H9 s9 x9 => ?_
    refine gn ?_
    obtain ⟨ys9, g9⟩ := x9.ls
    refine ⟨.ref L9, rfl, .inl ⟨rfl, _, .inl (.inl g9)⟩, ?_⟩
    refine cons1 ?_
    refine (show MQ K (S2 p L9) _ H9 _ C5 from .tup x9.kp (.cons (.str _) (.cons (.tup x9.kp .nil (by decide)) .nil)) (by decide)) H9 _ (Same.refl H9) fun H10 v10 s10 k10 => ?_
    refine sx_app (x9.same s10) (by decide) k10 (inC _ (.inr (.inr (.inr (.inr rfl))))) fun H11 x11 f11 => ?_
    clear x3 x5 x7 x9 k4 k6 k8 k10
    refine nx_of ?_
    refine ⟨(show 2 ≤ sizeLine by decide), fun T nT => ⟨T, rfl, ⟨_, .inl (.inl upd_same)⟩, ?_⟩⟩
    have xT := x11.same (sameN (o := .tup [.int 5, .int 6]) nT)
    refine for_tup (xs := [V.int 5, .int 6]) (fun i σ H' => ∃ L z1 z4 z5 z6, σ = [some (.ref a), z1, some (.ref p), some (.ref L), z4, z5, z6, y7, y8, y9, y10, y11, y12] ∧ Sx K p L H1 H' (14 + 5 * i) 0 ∧ H' T = some (.tup [.int 5, .int 6])) ⟨L9, _, _, _, _, rfl, xT, upd_same⟩ (fun i σ H' _ hp => ?_) (fun i x σ H12 hx hp => ?_) (fun σ H12 hp => ?_)
    · obtain ⟨L, z1, z4, z5, z6, rfl, _, hT⟩ := hp
      exact .inl (.inl hT)
    · obtain ⟨L, z1, z4, z5, z6, rfl, x12, hT⟩ := hp
      obtain ⟨l, rfl, hl, hi⟩ : ∃ l : Nat, x = .int l ∧ (l = 5 ∨ l = 6) ∧ i ≤ 1 := by
        match i, hx with
        | 0, hx => exact ⟨5, (Option.some.inj hx).symm, .inl rfl, by omega⟩
        | 1, hx => exact ⟨6, (Option.some.inj hx).symm, .inr rfl, by omega⟩
      have sm67 := T_sm l hl
      refine gn ?_
      refine seq_asg ?_
      refine ⟨.int l, rfl, _, l, rfl, rfl, by omega, fun H13 t v1 v2 s13 ht k1 k2 => ?_⟩
      refine ⟨t, _, rfl, .inl (.inl ht), rfl, _, _, rfl, _, [], rfl, rfl, ?_⟩
      have x13 := x12.same s13
      have d1 := dq_wo x13.kp1 k1 (noL_dat _)
      have d2 := dq_wo x13.kp1 k2 (noL_dat _)
      refine seq_asg ?_
      refine ⟨.ref L, rfl, ?_⟩
      refine lst_new (K := K) (S := fun b => b = p) (ds := C6 (dat (tw l).1) (dat (tw l).2)) x13.kp1 ?mt1 (show 3 ≤ 1000 by decide) fun H14 l14 vs14 s14 n14 e14 k14 ne14 => ?_
      case mt1 =>
        exact MQs.cons (.tup x13.kp1 (.cons (.str _) (.cons (.tup x13.kp1 (.cons (.v rfl d1) (.cons (.v rfl d2) .nil)) (show 2 ≤ 1000 by decide)) .nil)) (show 2 ≤ 1000 by decide)) (.cons (.tup x13.kp1 (.cons (.str _) (.cons (.tup x13.kp1 (.cons (.v rfl d1) (.cons (.v rfl d1) .nil)) (show 2 ≤ 1000 by decide)) .nil)) (show 2 ≤ 1000 by decide)) (.cons (.tup x13.kp1 (.cons (.str _) (.cons (.tup x13.kp1 (.cons (.v rfl d1) (.cons (.tup x13.kp1 (.cons (.str _) (.cons (.v rfl d1) (.cons (.int _) .nil))) (show 3 ≤ 1000 by decide)) .nil)) (show 2 ≤ 1000 by decide)) .nil)) (show 2 ≤ 1000 by decide)) .nil))
      refine sx_cat (m := 3) (x13.same s14) (by omega) e14 k14 sm67.1 (by show 3 ≤ 3; decide) fun L15 H15 s15 x15 => ?_
      refine gn ?_
      have s135 := s14.trans s15
      replace d1 := dq_wo x15.kp1 (k1.up (.of s135)) (noL_dat _)
      replace d2 := dq_wo x15.kp1 (k2.up (.of s135)) (noL_dat _)
      refine ⟨.ref L15, rfl, ?_⟩
      refine lst_new (K := K) (S := fun b => b = p) (ds := C7 (dat (tw l).1) (dat (tw l).2)) x15.kp1 ?mt2 (show 2 ≤ 1000 by decide) fun H16 l16 vs16 s16 n16 e16 k16 ne16 => ?_
      case mt2 =>
        exact MQs.cons (.tup x15.kp1 (.cons (.str _) (.cons (.tup x15.kp1 (.cons (.str _) (.cons (.v rfl d2) (.cons (.int _) .nil))) (show 3 ≤ 1000 by decide)) (.cons (.int _) .nil))) (show 3 ≤ 1000 by decide)) (.cons (.tup x15.kp1 (.cons (.str _) (.cons (.tup x15.kp1 (.cons (.v rfl d2) (.cons (.tup x15.kp1 (.cons (.str _) (.cons (.v rfl d1) (.cons (.int _) .nil))) (show 3 ≤ 1000 by decide)) (.cons (.v rfl d2) .nil))) (show 3 ≤ 1000 by decide)) .nil)) (show 2 ≤ 1000 by decide)) .nil)
      refine sx_cat (m := 2) (x15.same s16) (by omega) e16 k16 sm67.2 (by show 2 ≤ 2; decide) fun L17 H17 s17 x17 => ?_
      refine gn ?_
      exact ⟨L17, _, _, _, _, rfl, by rw [show 14 + 5 * (i + 1) = 14 + 5 * i + 3 + 2 by omega]; exact x17, s17 _ _ (s16 _ _ (s135 _ _ (s13 _ _ hT)))⟩
    · obtain ⟨L, z1, z4, z5, z6, rfl, x12, hT⟩ := hp
      clear hT xT x11
      refine nx_of ?_
      refine ⟨8, rfl, by decide, by decide, ?_⟩
      have np1 : H1 p = none := np
      refine for_range (fun i σ H' => ∃ L z1 z4 z5 z6 z7 z8 z9, σ = [some (.ref a), z1, some (.ref p), some (.ref L), z4, z5, z6, z7, z8, z9, y10, y11, y12] ∧ Sx K p L H1 H' (24 + 11 * i) (2400 * i)) ⟨L, _, _, _, _, _, _, _, rfl, x12⟩ (fun i σ H13 hi hp => ?_) (fun σ H13 hp => ?_)
      · obtain ⟨L, z1, z4, z5, z6, z7, z8, z9, rfl, x13⟩ := hp
        have hi' : i < 8 := hi
        refine gn ?_
        refine seq_asg ?_
        have ez : (0 + (i : Int)) % 4 = ((i % 4 : Nat) : Int) := by omega
        have cl : cost (i % 4) ≤ 512 := by
          have : i % 4 = 0 ∨ i % 4 = 1 ∨ i % 4 = 2 ∨ i % 4 = 3 := by omega
          rcases this with e | e | e | e <;> rw [e] <;> decide
        refine ⟨.ref p, rfl, .int (0 + (i : Int)), rfl, 0 + (i : Int), 4, rfl, rfl, (show (0 : Int) < 4 by decide), ?_⟩
        refine ⟨p, _, i % 4, 1, 2400 * i, rfl, ez, by omega, by omega, by decide, x13.2.1, by omega, fun H14 R vs14 ns b14 nR gR kR okR _ lR p14 => ?_⟩
        have x14 := x13.but np1 b14 p14
        obtain ⟨n, rfl⟩ : ∃ n, ns = [n] := match ns, lR with
          | [n], _ => ⟨n, rfl⟩
        obtain ⟨v, rfl, kv⟩ : ∃ v, vs14 = [v] ∧ NdV K H14 v n := by
          cases kR with
          | cons h t => cases t with
            | nil => exact ⟨_, rfl, h⟩
        have okn : Ok n (i % 4) := okR.mem n List.mem_cons_self
        have smg : sm 0 10 370 (dat n) := (dat_sm okn (m := 10) (b := 370) (by omega) (by
          have : i % 4 = 0 ∨ i % 4 = 1 ∨ i % 4 = 2 ∨ i % 4 = 3 := by omega
          rcases this with e | e | e | e <;> rw [e] <;> decide)).1
        have kv14 := dq_wo x14.kp kv (noL_dat _)
        refine ⟨R, [v], 0, v, rfl, rfl, .inl (.inl gR), rfl, ?_⟩
        refine gn ?_
        obtain ⟨ys14, e14⟩ := x14.ls
        refine ⟨.ref L, rfl, .inl ⟨rfl, _, .inl (.inl e14)⟩, v, rfl, ?_⟩
        dsimp only [tNil]
        refine sx_app x14 (by omega) kv14 (smg.up (by decide) (by decide) (by decide)) fun H15 x15 f15 => ?_
        have kv15 := kv14.up (wo_f f15)
        have neL := x15.2.2.1
        obtain ⟨ys15, e15⟩ := x15.ls
        refine ⟨.ref L, rfl, .inl ⟨rfl, _, .inl (.inl e15)⟩, ?_⟩
        refine ⟨8, rfl, by decide, by decide, fun D2 nD2 => ?_⟩
        have nD2p : D2 ≠ p := x15.2.1.ne nD2
        have nD2L : D2 ≠ L := fun z => by
          rw [z, e15] at nD2
          cases nD2
        refine lc_range (fun j H' => ∃ us es, H' D2 = some (.lst us) ∧ DqAll K (wo (fun b => S2 p L b ∨ b = D2) H') us es ∧ (∀ d ∈ es, sm 2 44 3000 d) ∧ es.length = j ∧ But p H15 H' ∧ Pot H' p (2400 * i + 512 + 174 * j)) ⟨[], [], upd_same, .nil, (fun d hd => nomatch hd), rfl, .new nD2, (x15.2.1.new nD2).le (by omega)⟩ (fun j H16 hj hq' => ?_) (fun H16 hq' => ?_)
        · obtain ⟨us, es, gD, kD, smD, lD, b16, p16⟩ := hq'
          have hj' : j < 8 := hj
          have kp16 : Kp (fun b => S2 p L b ∨ b = D2) H16 := fun b hb => by
            rcases hb with hb | rfl
            · exact (x15.2.2.2.2.but b16 neL).kp p16 b hb
            · exact ⟨us, gD⟩
          have kv16 : Dq K (wo (fun b => S2 p L b ∨ b = D2) H16) v (dat n) := kv15.up (wo_xt b16 nD2)
          refine ⟨rfl, .ref p, rfl, v, rfl, p, (fun b => S2 p L b ∨ b = D2), v, _, 0, _, rfl, .inl (.inl rfl), kp16, kv16, by decide, smg.1, Nat.lt_of_le_of_lt smg.2.1 (by decide), Nat.le_trans smg.2.2 (by decide), p16, by omega, fun v17 d17 H17 b17 k17 bn17 p17 => ?_⟩
          have g17 := b17.at nD2p gD
          have lu := kD.len
          refine ⟨us, g17, line5 (by omega), us ++ [v17], es ++ [d17], upd_same, ?_, fun d hd => ?_, by rw [List.length_append, lD]; rfl, (b16.trans b17).wr nD2, ?_⟩
          · exact ((kD.up (But.wo (S := fun b => S2 p L b ∨ b = D2) (.inl (.inl rfl)) b17)).app (.cons k17 .nil)).up (wo_set (.inr rfl))
          · rcases List.mem_append.mp hd with hd | hd
            · exact smD d hd
            · rw [List.mem_singleton.mp hd]
              exact (bn_s1 smg bn17).up (by decide) (by decide) (by decide)
          · exact (p17.oth nD2p.symm).le (by omega)
        · obtain ⟨us, es, gD, kD, smD, lD, b16, p16⟩ := hq'
          have x16 := x15.but np1 b16 p16
          have kv16 : Dq K (wo (S2 p L) H16) v (dat n) := kv15.up (But.wo (S := S2 p L) (.inl rfl) b16)
          dsimp only [tNil]
          refine ext_tg (m := 8) x16.2.2.2.2 (by omega) gD nD2L (kD.up (wo_less fun b hb => .inl hb)) smD (by omega) (by decide) fun H17 tg17 f17 => ?_
          have x17 : Sx K p L H1 H17 (24 + 11 * i + 1 + 8) (2400 * i + 512 + 174 * 8) := ⟨tr_f x16.1 f17 x16.2.2.2.1, (by
            obtain ⟨o', e', r'⟩ := x16.2.1
            exact ⟨o', by rw [f17 p neL.symm]; exact e', r'⟩), neL, x16.2.2.2.1, tg17⟩
          have kv17 := kv16.up (wo_f f17)
          obtain ⟨ys17, e17⟩ := x17.ls
          refine ⟨.ref L, rfl, .inl ⟨rfl, _, .inl (.inl e17)⟩, ?_⟩
          refine ⟨.ref p, rfl, .ref p, rfl, v, rfl, p, S2 p L, v, _, 0, _, rfl, .inl rfl, x17.kp, kv17, by decide, smg.1, Nat.lt_of_le_of_lt smg.2.1 (by decide), Nat.le_trans smg.2.2 (by decide), x17.2.1, by omega, fun v18 d18 H18 b18 k18 bn18 p18 => ?_⟩
          have sm18 : sm 1 24 940 d18 := bn_s1 smg bn18
          have x18 := x17.but np1 b18 p18
          refine ⟨p, S2 p L, v18, d18, 1, _, rfl, .inl rfl, x18.kp, k18, by decide, sm18.1, Nat.lt_of_le_of_lt sm18.2.1 (by decide), Nat.le_trans sm18.2.2 (by decide), x18.2.1, by omega, fun v19 d19 H19 b19 k19 bn19 p19 => ?_⟩
          have x19 := x18.but np1 b19 p19
          dsimp only [tNil]
          refine sx_app x19 (by omega) k19 (bn_s2 sm18 bn19) fun H20 x20 f20 => ?_
          obtain ⟨ys20, e20⟩ := x20.ls
          refine ⟨.ref L, rfl, .inl ⟨rfl, _, .inl (.inl e20)⟩, ?_⟩
          refine ⟨.ref p, rfl, p, S2 p L, 40, _, rfl, by decide, .inl rfl, x20.kp, x20.2.1, by omega, fun v21 d21 H21 b21 k21 sm21 p21 => ?_⟩
          have x21 := x20.but np1 b21 p21
          dsimp only [tNil]
          refine sx_app x21 (by omega) k21 (sm21.up (by decide) (by decide) (by decide)) fun H22 x22 f22 => ?_
          exact ⟨L, _, _, _, _, _, _, _, rfl, by
            obtain ⟨q1, q2, q3, q4, q5⟩ := x22
            exact ⟨q1, q2.le (by omega), q3, q4, by rw [show 24 + 11 * (i + 1) = 24 + 11 * i + 1 + 8 + 1 + 1 by omega]; exact q5⟩⟩
      · obtain ⟨L, z1, z4, z5, z6, z7, z8, z9, rfl, x13⟩ := hp
        obtain ⟨q1, _, _, _, vs, ds, eL, kL, smL, lL⟩ := x13
        have lv := kL.len
        have kLs : DqAll K H13 vs ds := kL.up wo_same
        clear kL
        refine ⟨.ref L, rfl, L, rfl, ⟨vs, .inl (.inl eL)⟩, ?_⟩
        refine for_list (xs := vs) (fun i σ H' => ∃ x10 x11 x12, σ = [some (.ref a), z1, some (.ref p), some (.ref L), z4, z5, z6, z7, z8, z9, x10, x11, x12] ∧ Same H13 H') ⟨_, _, _, rfl, Same.refl H13⟩ (fun i σ H' _ hq' => ?_) (fun i x σ H14 hx hq' => ?_) (fun σ H14 hq' => ?_)
        · obtain ⟨_, _, _, _, s14⟩ := hq'
          exact s14.seq (.inl (.inl eL))
        · obtain ⟨x10, x11, x12, rfl, s14⟩ := hq'
          obtain ⟨d, hd, kd⟩ := kLs.get hx
          have smd := smL d (List.mem_of_getElem? hd)
          refine gn ?_
          have lt45 : d.depth < 45 := Nat.lt_of_le_of_lt smd.2.1 (by decide)
          show tCB _ (tCons (tVar 10) tNil) _ _ _
          refine cb1_var x rfl (rep_any s14 kd smd (by decide) (by decide) (by decide) ?_)
          refine ⟨x, rfl, x, d, rfl, kd.up s14, lt45, by decide, fun v15 H15 s15 lv15 => ⟨rfl, ?_⟩⟩
          have s15' := s14.trans s15
          obtain ⟨b, eb, hb⟩ : ∃ b : Bool, (!decide (v15 = V.non)) = b ∧ (b = true ↔ NodeD d) := by
            by_cases nd : NodeD d
            · obtain ⟨n, l, ok, e⟩ := nd
              refine ⟨true, by rw [lv15.1 n l ok e]; rfl, fun _ => ⟨n, l, ok, e⟩, fun _ => rfl⟩
            · refine ⟨false, by rw [lv15.2 nd]; rfl, fun h => (Bool.false_ne_true h).elim, fun h => absurd h nd⟩
          rw [eb]
          have sb : sm 0 1 2 (.bool b) := ⟨by simp [nc], by simp [PyData.depth], by simp [PyData.bulk]⟩
          refine ⟨_, _, rfl, ?_⟩
          refine nx_of ?_
          refine ifs_any (fun b H' => Same H13 H' ∧ b = false) (fun b H' hb => ?_) (fun R hR => ?_)
          · obtain ⟨s16, rfl⟩ := hb
            exact iteF ⟨_, _, _, rfl, s16⟩
          · refine ⟨x, rfl, x, d, rfl, kd.up s15', lt45, by decide, fun b2 H16 s16 hb2 => ?_⟩
            obtain rfl : b2 = b := by
              cases b <;> cases b2 <;> simp_all
            have s16' := s15'.trans s16
            dsimp only [tNil]
            refine (rep_any (Same.refl _) (.bl b2) sb (by decide) (by decide) (by decide) ?_ : rRepQ K [.bl b2] _ _)
            show tCB _ (tCons (tVar 12) tNil) _ _ _
            refine cb1_var (.bl b2) rfl (rep_any (Same.refl _) (.bl b2) sb (by decide) (by decide) (by decide) ?_)
            refine ⟨rfl, false, by simp, iteF ?_⟩
            show tCB _ (tCons (tVar 10) tNil) _ _ _
            refine cb1_var x rfl (rep_any s16' kd smd (by decide) (by decide) (by decide) ?_)
            exact ⟨_, rfl, rfl, false, by simp, hR _ _ ⟨s16', rfl⟩⟩
        · obtain ⟨x10, x11, x12, rfl, s14⟩ := hq'
          exact ⟨_, _, _, _, _, _, _, _, _, _, _, _, rfl, smH.trans (q1.trans s14)⟩
end
end C01

set_option Elab.async false
set_option linter.all false
set_option maxRecDepth 100000
namespace C01
open PySem PySem.Spec PyProof.Rows L2 Loc RZ
set_option maxHeartbeats 0 in
theorem all_mk {l : PySem.W.OpenLaw} {w : World} {K : PySem.W.Frag} {h : Heap} {mg : Str → Option Value} {fa : Addr} (X : K.In h) (G : h.Ns mainGlobals mg) (hfa : mg "law" = some (.ref fa))
    {f0 : Addr} {od0 an0 : Option Addr} {sl0 : Array (Option Value)} {oc0 kV0 dc0 pm0 cd0 ct0 : Value}
    (a0 : PySem.W.nsIn K mainGlobals "is_whole" = some (some (.ref f0)))
    (l0 : K.lookup f0 = some ⟨oc0, od0, .func (PySem.W.fnOf "is_whole" "is_whole" (defArgs sWhole) (defBody sWhole) (defScope sWhole) .none kV0 dc0 pm0 an0 cd0 ct0), sl0⟩)
    (c0 : PySem.W.codeIn K cd0 "is_whole" = true) (k0 : PySem.W.keepIn K (.ref f0) = true)
    {f1 : Addr} {od1 an1 : Option Addr} {sl1 : Array (Option Value)} {oc1 kV1 dc1 pm1 cd1 ct1 : Value}
    (a1 : PySem.W.nsIn K mainGlobals "is_element" = some (some (.ref f1)))
    (l1 : K.lookup f1 = some ⟨oc1, od1, .func (PySem.W.fnOf "is_element" "is_element" (defArgs sElement) (defBody sElement) (defScope sElement) .none kV1 dc1 pm1 an1 cd1 ct1), sl1⟩)
    (c1 : PySem.W.codeIn K cd1 "is_element" = true) (k1 : PySem.W.keepIn K (.ref f1) = true)
    {f2 : Addr} {od2 an2 : Option Addr} {sl2 : Array (Option Value)} {oc2 kV2 dc2 pm2 cd2 ct2 : Value}
    (a2 : PySem.W.nsIn K mainGlobals "is_count" = some (some (.ref f2)))
    (l2 : K.lookup f2 = some ⟨oc2, od2, .func (PySem.W.fnOf "is_count" "is_count" (defArgs sCount) (defBody sCount) (defScope sCount) .none kV2 dc2 pm2 an2 cd2 ct2), sl2⟩)
    (c2 : PySem.W.codeIn K cd2 "is_count" = true) (k2 : PySem.W.keepIn K (.ref f2) = true)
    {f3 : Addr} {od3 an3 : Option Addr} {sl3 : Array (Option Value)} {oc3 kV3 dc3 pm3 cd3 ct3 : Value}
    (a3 : PySem.W.nsIn K mainGlobals "is_run" = some (some (.ref f3)))
    (l3 : K.lookup f3 = some ⟨oc3, od3, .func (PySem.W.fnOf "is_run" "is_run" (defArgs sIsRun) (defBody sIsRun) (defScope sIsRun) .none kV3 dc3 pm3 an3 cd3 ct3), sl3⟩)
    (c3 : PySem.W.codeIn K cd3 "is_run" = true) (k3 : PySem.W.keepIn K (.ref f3) = true)
    {f4 : Addr} {od4 an4 : Option Addr} {sl4 : Array (Option Value)} {oc4 kV4 dc4 pm4 cd4 ct4 : Value}
    (a4 : PySem.W.nsIn K mainGlobals "is_block" = some (some (.ref f4)))
    (l4 : K.lookup f4 = some ⟨oc4, od4, .func (PySem.W.fnOf "is_block" "is_block" (defArgs sIsBlk) (defBody sIsBlk) (defScope sIsBlk) .none kV4 dc4 pm4 an4 cd4 ct4), sl4⟩)
    (c4 : PySem.W.codeIn K cd4 "is_block" = true) (k4 : PySem.W.keepIn K (.ref f4) = true)
    {f5 : Addr} {od5 an5 : Option Addr} {sl5 : Array (Option Value)} {oc5 kV5 dc5 pm5 cd5 ct5 : Value}
    (a5 : PySem.W.nsIn K mainGlobals "base_of" = some (some (.ref f5)))
    (l5 : K.lookup f5 = some ⟨oc5, od5, .func (PySem.W.fnOf "base_of" "base_of" (defArgs sBase) (defBody sBase) (defScope sBase) .none kV5 dc5 pm5 an5 cd5 ct5), sl5⟩)
    (c5 : PySem.W.codeIn K cd5 "base_of" = true) (k5 : PySem.W.keepIn K (.ref f5) = true)
    {f6 : Addr} {od6 an6 : Option Addr} {sl6 : Array (Option Value)} {oc6 kV6 dc6 pm6 cd6 ct6 : Value}
    (a6 : PySem.W.nsIn K mainGlobals "is_node" = some (some (.ref f6)))
    (l6 : K.lookup f6 = some ⟨oc6, od6, .func (PySem.W.fnOf "is_node" "is_node" (defArgs sIsNode) (defBody sIsNode) (defScope sIsNode) .none kV6 dc6 pm6 an6 cd6 ct6), sl6⟩)
    (c6 : PySem.W.codeIn K cd6 "is_node" = true) (k6 : PySem.W.keepIn K (.ref f6) = true)
    {f7 : Addr} {od7 an7 : Option Addr} {sl7 : Array (Option Value)} {oc7 kV7 dc7 pm7 cd7 ct7 : Value}
    (a7 : PySem.W.nsIn K mainGlobals "_can_be_parts" = some (some (.ref f7)))
    (l7 : K.lookup f7 = some ⟨oc7, od7, .func (PySem.W.fnOf "_can_be_parts" "_can_be_parts" (defArgs sParts) (defBody sParts) (defScope sParts) .none kV7 dc7 pm7 an7 cd7 ct7), sl7⟩)
    (c7 : PySem.W.codeIn K cd7 "_can_be_parts" = true) (k7 : PySem.W.keepIn K (.ref f7) = true)
    {f8 : Addr} {od8 an8 : Option Addr} {sl8 : Array (Option Value)} {oc8 kV8 dc8 pm8 cd8 ct8 : Value}
    (a8 : PySem.W.nsIn K mainGlobals "_fit_together" = some (some (.ref f8)))
    (l8 : K.lookup f8 = some ⟨oc8, od8, .func (PySem.W.fnOf "_fit_together" "_fit_together" (defArgs sFit) (defBody sFit) (defScope sFit) .none kV8 dc8 pm8 an8 cd8 ct8), sl8⟩)
    (c8 : PySem.W.codeIn K cd8 "_fit_together" = true) (k8 : PySem.W.keepIn K (.ref f8) = true)
    {f9 : Addr} {od9 an9 : Option Addr} {sl9 : Array (Option Value)} {oc9 kV9 dc9 pm9 cd9 ct9 : Value}
    (a9 : PySem.W.nsIn K mainGlobals "level_of" = some (some (.ref f9)))
    (l9 : K.lookup f9 = some ⟨oc9, od9, .func (PySem.W.fnOf "level_of" "level_of" (defArgs sLevel) (defBody sLevel) (defScope sLevel) .none kV9 dc9 pm9 an9 cd9 ct9), sl9⟩)
    (c9 : PySem.W.codeIn K cd9 "level_of" = true) (k9 : PySem.W.keepIn K (.ref f9) = true)
    {f10 : Addr} {od10 an10 : Option Addr} {sl10 : Array (Option Value)} {oc10 kV10 dc10 pm10 cd10 ct10 : Value}
    (a10 : PySem.W.nsIn K mainGlobals "_law_pot" = some (some (.ref f10)))
    (l10 : K.lookup f10 = some ⟨oc10, od10, .func (PySem.W.fnOf "_law_pot" "_law_pot" (defArgs sPot) (defBody sPot) (defScope sPot) .none kV10 dc10 pm10 an10 cd10 ct10), sl10⟩)
    (c10 : PySem.W.codeIn K cd10 "_law_pot" = true) (k10 : PySem.W.keepIn K (.ref f10) = true)
    {f11 : Addr} {od11 an11 : Option Addr} {sl11 : Array (Option Value)} {oc11 kV11 dc11 pm11 cd11 ct11 : Value}
    (a11 : PySem.W.nsIn K mainGlobals "_law_take" = some (some (.ref f11)))
    (l11 : K.lookup f11 = some ⟨oc11, od11, .func (PySem.W.fnOf "_law_take" "_law_take" (defArgs sTake) (defBody sTake) (defScope sTake) .none kV11 dc11 pm11 an11 cd11 ct11), sl11⟩)
    (c11 : PySem.W.codeIn K cd11 "_law_take" = true) (k11 : PySem.W.keepIn K (.ref f11) = true)
    {f12 : Addr} {od12 an12 : Option Addr} {sl12 : Array (Option Value)} {oc12 kV12 dc12 pm12 cd12 ct12 : Value}
    (a12 : PySem.W.nsIn K mainGlobals "_law_of" = some (some (.ref f12)))
    (l12 : K.lookup f12 = some ⟨oc12, od12, .func (PySem.W.fnOf "_law_of" "_law_of" (defArgs sOf) (defBody sOf) (defScope sOf) .none kV12 dc12 pm12 an12 cd12 ct12), sl12⟩)
    (c12 : PySem.W.codeIn K cd12 "_law_of" = true) (k12 : PySem.W.keepIn K (.ref f12) = true)
    {f13 : Addr} {od13 an13 : Option Addr} {sl13 : Array (Option Value)} {oc13 kV13 dc13 pm13 cd13 ct13 : Value}
    (a13 : PySem.W.nsIn K mainGlobals "_law_ground" = some (some (.ref f13)))
    (l13 : K.lookup f13 = some ⟨oc13, od13, .func (PySem.W.fnOf "_law_ground" "_law_ground" (defArgs sGround) (defBody sGround) (defScope sGround) .none kV13 dc13 pm13 an13 cd13 ct13), sl13⟩)
    (c13 : PySem.W.codeIn K cd13 "_law_ground" = true) (k13 : PySem.W.keepIn K (.ref f13) = true)
    {f14 : Addr} {od14 an14 : Option Addr} {sl14 : Array (Option Value)} {oc14 kV14 dc14 pm14 cd14 ct14 : Value}
    (a14 : PySem.W.nsIn K mainGlobals "_law_leaf" = some (some (.ref f14)))
    (l14 : K.lookup f14 = some ⟨oc14, od14, .func (PySem.W.fnOf "_law_leaf" "_law_leaf" (defArgs sLeaf) (defBody sLeaf) (defScope sLeaf) .none kV14 dc14 pm14 an14 cd14 ct14), sl14⟩)
    (c14 : PySem.W.codeIn K cd14 "_law_leaf" = true) (k14 : PySem.W.keepIn K (.ref f14) = true)
    {f15 : Addr} {od15 an15 : Option Addr} {sl15 : Array (Option Value)} {oc15 kV15 dc15 pm15 cd15 ct15 : Value}
    (a15 : PySem.W.nsIn K mainGlobals "_law_row" = some (some (.ref f15)))
    (l15 : K.lookup f15 = some ⟨oc15, od15, .func (PySem.W.fnOf "_law_row" "_law_row" (defArgs sRow) (defBody sRow) (defScope sRow) .none kV15 dc15 pm15 an15 cd15 ct15), sl15⟩)
    (c15 : PySem.W.codeIn K cd15 "_law_row" = true) (k15 : PySem.W.keepIn K (.ref f15) = true)
    {f16 : Addr} {od16 an16 : Option Addr} {sl16 : Array (Option Value)} {oc16 kV16 dc16 pm16 cd16 ct16 : Value}
    (a16 : PySem.W.nsIn K mainGlobals "_law_block" = some (some (.ref f16)))
    (l16 : K.lookup f16 = some ⟨oc16, od16, .func (PySem.W.fnOf "_law_block" "_law_block" (defArgs sBlock) (defBody sBlock) (defScope sBlock) .none kV16 dc16 pm16 an16 cd16 ct16), sl16⟩)
    (c16 : PySem.W.codeIn K cd16 "_law_block" = true) (k16 : PySem.W.keepIn K (.ref f16) = true)
    {f17 : Addr} {od17 an17 : Option Addr} {sl17 : Array (Option Value)} {oc17 kV17 dc17 pm17 cd17 ct17 : Value}
    (a17 : PySem.W.nsIn K mainGlobals "_law_twins" = some (some (.ref f17)))
    (l17 : K.lookup f17 = some ⟨oc17, od17, .func (PySem.W.fnOf "_law_twins" "_law_twins" (defArgs sTwins) (defBody sTwins) (defScope sTwins) .none kV17 dc17 pm17 an17 cd17 ct17), sl17⟩)
    (c17 : PySem.W.codeIn K cd17 "_law_twins" = true) (k17 : PySem.W.keepIn K (.ref f17) = true)
    {f18 : Addr} {od18 an18 : Option Addr} {sl18 : Array (Option Value)} {oc18 kV18 dc18 pm18 cd18 ct18 : Value}
    (a18 : PySem.W.nsIn K mainGlobals "_law_unlike" = some (some (.ref f18)))
    (l18 : K.lookup f18 = some ⟨oc18, od18, .func (PySem.W.fnOf "_law_unlike" "_law_unlike" (defArgs sUnlike) (defBody sUnlike) (defScope sUnlike) .none kV18 dc18 pm18 an18 cd18 ct18), sl18⟩)
    (c18 : PySem.W.codeIn K cd18 "_law_unlike" = true) (k18 : PySem.W.keepIn K (.ref f18) = true)
    {f19 : Addr} {od19 an19 : Option Addr} {sl19 : Array (Option Value)} {oc19 kV19 dc19 pm19 cd19 ct19 : Value}
    (a19 : PySem.W.nsIn K mainGlobals "_law_odd" = some (some (.ref f19)))
    (l19 : K.lookup f19 = some ⟨oc19, od19, .func (PySem.W.fnOf "_law_odd" "_law_odd" (defArgs sOdd) (defBody sOdd) (defScope sOdd) .none kV19 dc19 pm19 an19 cd19 ct19), sl19⟩)
    (c19 : PySem.W.codeIn K cd19 "_law_odd" = true) (k19 : PySem.W.keepIn K (.ref f19) = true)
    {f20 : Addr} {od20 an20 : Option Addr} {sl20 : Array (Option Value)} {oc20 kV20 dc20 pm20 cd20 ct20 : Value}
    (a20 : PySem.W.nsIn K mainGlobals "_law_bent" = some (some (.ref f20)))
    (l20 : K.lookup f20 = some ⟨oc20, od20, .func (PySem.W.fnOf "_law_bent" "_law_bent" (defArgs sBent) (defBody sBent) (defScope sBent) .none kV20 dc20 pm20 an20 cd20 ct20), sl20⟩)
    (c20 : PySem.W.codeIn K cd20 "_law_bent" = true) (k20 : PySem.W.keepIn K (.ref f20) = true)
    {f21 : Addr} {od21 an21 : Option Addr} {sl21 : Array (Option Value)} {oc21 kV21 dc21 pm21 cd21 ct21 : Value}
    (a21 : PySem.W.nsIn K mainGlobals "_law_is_whole" = some (some (.ref f21)))
    (l21 : K.lookup f21 = some ⟨oc21, od21, .func (PySem.W.fnOf "_law_is_whole" "_law_is_whole" (defArgs sLWhole) (defBody sLWhole) (defScope sLWhole) .none kV21 dc21 pm21 an21 cd21 ct21), sl21⟩)
    (c21 : PySem.W.codeIn K cd21 "_law_is_whole" = true) (k21 : PySem.W.keepIn K (.ref f21) = true)
    {f22 : Addr} {od22 an22 : Option Addr} {sl22 : Array (Option Value)} {oc22 kV22 dc22 pm22 cd22 ct22 : Value}
    (a22 : PySem.W.nsIn K mainGlobals "_law_level" = some (some (.ref f22)))
    (l22 : K.lookup f22 = some ⟨oc22, od22, .func (PySem.W.fnOf "_law_level" "_law_level" (defArgs sLLevel) (defBody sLLevel) (defScope sLLevel) .none kV22 dc22 pm22 an22 cd22 ct22), sl22⟩)
    (c22 : PySem.W.codeIn K cd22 "_law_level" = true) (k22 : PySem.W.keepIn K (.ref f22) = true)
    {f23 : Addr} {od23 an23 : Option Addr} {sl23 : Array (Option Value)} {oc23 kV23 dc23 pm23 cd23 ct23 : Value}
    (a23 : PySem.W.nsIn K mainGlobals "law" = some (some (.ref f23)))
    (l23 : K.lookup f23 = some ⟨oc23, od23, .func (PySem.W.fnOf "law" "law" (defArgs sLaw) (defBody sLaw) (defScope sLaw) .none kV23 dc23 pm23 an23 cd23 ct23), sl23⟩)
    (c23 : PySem.W.codeIn K cd23 "law" = true) (k23 : PySem.W.keepIn K (.ref f23) = true)
    (z0 : PySem.W.nsIn K mainGlobals "abs" = some none)
    (z1 : PySem.W.nsIn K mainGlobals "bool" = some none)
    (z2 : PySem.W.nsIn K mainGlobals "int" = some none)
    (z3 : PySem.W.nsIn K mainGlobals "isinstance" = some none)
    (z4 : PySem.W.nsIn K mainGlobals "len" = some none)
    (z5 : PySem.W.nsIn K mainGlobals "list" = some none)
    (z6 : PySem.W.nsIn K mainGlobals "max" = some none)
    (z7 : PySem.W.nsIn K mainGlobals "min" = some none)
    (z8 : PySem.W.nsIn K mainGlobals "range" = some none)
    (z9 : PySem.W.nsIn K mainGlobals "repr" = some none)
    (z10 : PySem.W.nsIn K mainGlobals "set" = some none)
    (z11 : PySem.W.nsIn K mainGlobals "str" = some none)
    (z12 : PySem.W.nsIn K mainGlobals "tuple" = some none)
    (z13 : PySem.W.nsIn K mainGlobals "zip" = some none)
    : ∃ fd : FuncData, (∀ (s : Shared) (v : Value), BindsTo s fd ⟨[v], []⟩ [("script", v)]) ∧ ∀ base : Heap, K.In base → base.Ns mainGlobals mg → FnG l.prog w K mg base CX0 100 fa fd ["script"] (spLaw K) := by
  have e := hfa.symm.trans (PySem.W.mg_of X G a23)
  cases e
  have F0 := fun_mk (st := sWhole) l0 c0 k0
  have b0 := F0.binds (ps := ["value"]) fun _ _ _ _ _ _ us hl => match us, hl with | [_], _ => rfl
  have F1 := fun_mk (st := sElement) l1 c1 k1
  have b1 := F1.binds (ps := ["value"]) fun _ _ _ _ _ _ us hl => match us, hl with | [_], _ => rfl
  have F2 := fun_mk (st := sCount) l2 c2 k2
  have b2 := F2.binds (ps := ["value", "least"]) fun _ _ _ _ _ _ us hl => match us, hl with | [_, _], _ => rfl
  have F3 := fun_mk (st := sIsRun) l3 c3 k3
  have b3 := F3.binds (ps := ["value"]) fun _ _ _ _ _ _ us hl => match us, hl with | [_], _ => rfl
  have F4 := fun_mk (st := sIsBlk) l4 c4 k4
  have b4 := F4.binds (ps := ["value"]) fun _ _ _ _ _ _ us hl => match us, hl with | [_], _ => rfl
  have F5 := fun_mk (st := sBase) l5 c5 k5
  have b5 := F5.binds (ps := ["node"]) fun _ _ _ _ _ _ us hl => match us, hl with | [_], _ => rfl
  have F6 := fun_mk (st := sIsNode) l6 c6 k6
  have b6 := F6.binds (ps := ["value"]) fun _ _ _ _ _ _ us hl => match us, hl with | [_], _ => rfl
  have F7 := fun_mk (st := sParts) l7 c7 k7
  have b7 := F7.binds (ps := ["values"]) fun _ _ _ _ _ _ us hl => match us, hl with | [_], _ => rfl
  have F8 := fun_mk (st := sFit) l8 c8 k8
  have b8 := F8.binds (ps := ["nodes"]) fun _ _ _ _ _ _ us hl => match us, hl with | [_], _ => rfl
  have F9 := fun_mk (st := sLevel) l9 c9 k9
  have b9 := F9.binds (ps := ["node"]) fun _ _ _ _ _ _ us hl => match us, hl with | [_], _ => rfl
  have F10 := fun_mk (st := sPot) l10 c10 k10
  have b10 := F10.binds (ps := ["script", "k"]) fun _ _ _ _ _ _ us hl => match us, hl with | [_, _], _ => rfl
  have F11 := fun_mk (st := sTake) l11 c11 k11
  have b11 := F11.binds (ps := ["pot", "bound"]) fun _ _ _ _ _ _ us hl => match us, hl with | [_, _], _ => rfl
  have F12 := fun_mk (st := sOf) l12 c12 k12
  have b12 := F12.binds (ps := ["pot", "some"]) fun _ _ _ _ _ _ us hl => match us, hl with | [_, _], _ => rfl
  have F13 := fun_mk (st := sGround) l13 c13 k13
  have b13 := F13.binds (ps := ["node"]) fun _ _ _ _ _ _ us hl => match us, hl with | [_], _ => rfl
  have F14 := fun_mk (st := sLeaf) l14 c14 k14
  have b14 := F14.binds (ps := ["pot"]) fun _ _ _ _ _ _ us hl => match us, hl with | [_], _ => rfl
  have F15 := fun_mk (st := sRow) l15 c15 k15
  have b15 := F15.binds (ps := ["pot", "level", "many"]) fun _ _ _ _ _ _ us hl => match us, hl with | [_, _, _], _ => rfl
  have F16 := fun_mk (st := sBlock) l16 c16 k16
  have b16 := F16.binds (ps := ["pot", "level"]) fun _ _ _ _ _ _ us hl => match us, hl with | [_, _], _ => rfl
  have F17 := fun_mk (st := sTwins) l17 c17 k17
  have b17 := F17.binds (ps := ["level"]) fun _ _ _ _ _ _ us hl => match us, hl with | [_], _ => rfl
  have F18 := fun_mk (st := sUnlike) l18 c18 k18
  have b18 := F18.binds (ps := ["node", "level"]) fun _ _ _ _ _ _ us hl => match us, hl with | [_, _], _ => rfl
  have F19 := fun_mk (st := sOdd) l19 c19 k19
  have b19 := F19.binds (ps := ["pot", "deep"]) fun _ _ _ _ _ _ us hl => match us, hl with | [_, _], _ => rfl
  have F20 := fun_mk (st := sBent) l20 c20 k20
  have b20 := F20.binds (ps := ["pot", "thing"]) fun _ _ _ _ _ _ us hl => match us, hl with | [_, _], _ => rfl
  have F21 := fun_mk (st := sLWhole) l21 c21 k21
  have b21 := F21.binds (ps := ["thing", "least", "most"]) fun _ _ _ _ _ _ us hl => match us, hl with | [_, _, _], _ => rfl
  have F22 := fun_mk (st := sLLevel) l22 c22 k22
  have b22 := F22.binds (ps := ["thing"]) fun _ _ _ _ _ _ us hl => match us, hl with | [_], _ => rfl
  have F23 := fun_mk (st := sLaw) l23 c23 k23
  have Y : Facts K mg :=
    { fis_whole := F0, gis_whole := PySem.W.mg_of X G a0, bis_whole := b0, fis_element := F1, gis_element := PySem.W.mg_of X G a1, bis_element := b1, fis_count := F2, gis_count := PySem.W.mg_of X G a2, bis_count := b2, fis_run := F3, gis_run := PySem.W.mg_of X G a3, bis_run := b3, fis_block := F4, gis_block := PySem.W.mg_of X G a4, bis_block := b4, fbase_of := F5, gbase_of := PySem.W.mg_of X G a5, bbase_of := b5, fis_node := F6, gis_node := PySem.W.mg_of X G a6, bis_node := b6, fcan_be_parts := F7, gcan_be_parts := PySem.W.mg_of X G a7, bcan_be_parts := b7, ffit_together := F8, gfit_together := PySem.W.mg_of X G a8, bfit_together := b8, flevel_of := F9, glevel_of := PySem.W.mg_of X G a9, blevel_of := b9, fl_pot := F10, gl_pot := PySem.W.mg_of X G a10, bl_pot := b10, fl_take := F11, gl_take := PySem.W.mg_of X G a11, bl_take := b11, fl_of := F12, gl_of := PySem.W.mg_of X G a12, bl_of := b12, fl_ground := F13, gl_ground := PySem.W.mg_of X G a13, bl_ground := b13, fl_leaf := F14, gl_leaf := PySem.W.mg_of X G a14, bl_leaf := b14, fl_row := F15, gl_row := PySem.W.mg_of X G a15, bl_row := b15, fl_block := F16, gl_block := PySem.W.mg_of X G a16, bl_block := b16, fl_twins := F17, gl_twins := PySem.W.mg_of X G a17, bl_twins := b17, fl_unlike := F18, gl_unlike := PySem.W.mg_of X G a18, bl_unlike := b18, fl_odd := F19, gl_odd := PySem.W.mg_of X G a19, bl_odd := b19, fl_bent := F20, gl_bent := PySem.W.mg_of X G a20, bl_bent := b20, fl_is_whole := F21, gl_is_whole := PySem.W.mg_of X G a21, bl_is_whole := b21, fl_level := F22, gl_level := PySem.W.mg_of X G a22, bl_level := b22, abs := PySem.W.mg_none_of X G z0, bool := PySem.W.mg_none_of X G z1, int := PySem.W.mg_none_of X G z2, isinstance := PySem.W.mg_none_of X G z3, len := PySem.W.mg_none_of X G z4, list := PySem.W.mg_none_of X G z5, max := PySem.W.mg_none_of X G z6, min := PySem.W.mg_none_of X G z7, range := PySem.W.mg_none_of X G z8, repr := PySem.W.mg_none_of X G z9, set := PySem.W.mg_none_of X G z10, str := PySem.W.mg_none_of X G z11, tuple := PySem.W.mg_none_of X G z12, zip := PySem.W.mg_none_of X G z13, .. }
  exact ⟨_, fun s v => .of_eq rfl, fun base _ _ => ok_law F23 Y⟩
end C01
open PySem PySem.W PyProof.Rows
set_option maxHeartbeats 0 in
theorem PySem.Challenge.cw_localblocks_k01_nodes_of_any_value_holds : PySem.Challenge.rw_localblocks_k01_nodes_of_any_value.Holds := by
  w_on; o_law; k_head; (case hw => w_witness2)
  k_fill
  refine Loc.walkG (l := PySem.Challenge.rw_localblocks_k01_nodes_of_any_value) (n := 63) (k := 100) (x := "script") (sp := fun K => C01.spLaw K) rfl (by decide) rfl ⟨rfl, by decide, by decide⟩ (fun w h Y => PySem.W.kIn_of Y) ?F (fun K _ a ns hl hS => ⟨a, ns, rfl, hS, hl, fun _ => rfl⟩)
  case F =>
    intro w mg fa h KX G hmg
    refine' C01.all_mk KX G hmg ?a0 ?l0 ?c0 ?k0 ?a1 ?l1 ?c1 ?k1 ?a2 ?l2 ?c2 ?k2 ?a3 ?l3 ?c3 ?k3 ?a4 ?l4 ?c4 ?k4 ?a5 ?l5 ?c5 ?k5 ?a6 ?l6 ?c6 ?k6 ?a7 ?l7 ?c7 ?k7 ?a8 ?l8 ?c8 ?k8 ?a9 ?l9 ?c9 ?k9 ?a10 ?l10 ?c10 ?k10 ?a11 ?l11 ?c11 ?k11 ?a12 ?l12 ?c12 ?k12 ?a13 ?l13 ?c13 ?k13 ?a14 ?l14 ?c14 ?k14 ?a15 ?l15 ?c15 ?k15 ?a16 ?l16 ?c16 ?k16 ?a17 ?l17 ?c17 ?k17 ?a18 ?l18 ?c18 ?k18 ?a19 ?l19 ?c19 ?k19 ?a20 ?l20 ?c20 ?k20 ?a21 ?l21 ?c21 ?k21 ?a22 ?l22 ?c22 ?k22 ?a23 ?l23 ?c23 ?k23 ?z0 ?z1 ?z2 ?z3 ?z4 ?z5 ?z6 ?z7 ?z8 ?z9 ?z10 ?z11 ?z12 ?z13
    (case a0 => k_is)
    (case l0 => k_is)
    (case c0 => k_is)
    (case k0 => k_is)
    (case a1 => k_is)
    (case l1 => k_is)
    (case c1 => k_is)
    (case k1 => k_is)
    (case a2 => k_is)
    (case l2 => k_is)
    (case c2 => k_is)
    (case k2 => k_is)
    (case a3 => k_is)
    (case l3 => k_is)
    (case c3 => k_is)
    (case k3 => k_is)
    (case a4 => k_is)
    (case l4 => k_is)
    (case c4 => k_is)
    (case k4 => k_is)
    (case a5 => k_is)
    (case l5 => k_is)
    (case c5 => k_is)
    (case k5 => k_is)
    (case a6 => k_is)
    (case l6 => k_is)
    (case c6 => k_is)
    (case k6 => k_is)
    (case a7 => k_is)
    (case l7 => k_is)
    (case c7 => k_is)
    (case k7 => k_is)
    (case a8 => k_is)
    (case l8 => k_is)
    (case c8 => k_is)
    (case k8 => k_is)
    (case a9 => k_is)
    (case l9 => k_is)
    (case c9 => k_is)
    (case k9 => k_is)
    (case a10 => k_is)
    (case l10 => k_is)
    (case c10 => k_is)
    (case k10 => k_is)
    (case a11 => k_is)
    (case l11 => k_is)
    (case c11 => k_is)
    (case k11 => k_is)
    (case a12 => k_is)
    (case l12 => k_is)
    (case c12 => k_is)
    (case k12 => k_is)
    (case a13 => k_is)
    (case l13 => k_is)
    (case c13 => k_is)
    (case k13 => k_is)
    (case a14 => k_is)
    (case l14 => k_is)
    (case c14 => k_is)
    (case k14 => k_is)
    (case a15 => k_is)
    (case l15 => k_is)
    (case c15 => k_is)
    (case k15 => k_is)
    (case a16 => k_is)
    (case l16 => k_is)
    (case c16 => k_is)
    (case k16 => k_is)
    (case a17 => k_is)
    (case l17 => k_is)
    (case c17 => k_is)
    (case k17 => k_is)
    (case a18 => k_is)
    (case l18 => k_is)
    (case c18 => k_is)
    (case k18 => k_is)
    (case a19 => k_is)
    (case l19 => k_is)
    (case c19 => k_is)
    (case k19 => k_is)
    (case a20 => k_is)
    (case l20 => k_is)
    (case c20 => k_is)
    (case k20 => k_is)
    (case a21 => k_is)
    (case l21 => k_is)
    (case c21 => k_is)
    (case k21 => k_is)
    (case a22 => k_is)
    (case l22 => k_is)
    (case c22 => k_is)
    (case k22 => k_is)
    (case a23 => k_is)
    (case l23 => k_is)
    (case c23 => k_is)
    (case k23 => k_is)
    (case z0 => k_is)
    (case z1 => k_is)
    (case z2 => k_is)
    (case z3 => k_is)
    (case z4 => k_is)
    (case z5 => k_is)
    (case z6 => k_is)
    (case z7 => k_is)
    (case z8 => k_is)
    (case z9 => k_is)
    (case z10 => k_is)
    (case z11 => k_is)
    (case z12 => k_is)
    (case z13 => k_is)


