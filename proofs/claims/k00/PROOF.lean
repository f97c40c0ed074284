import PyProof.Rows.All
import Wide.All
import OpenK.AllK
import Wide.FinOn
import HandS.ForMost
import HandS.Base
import HandS.Call
import HandS.List
import HandS.Comp
import HandS.Ends
import HandS.Words
import PyProof.ReprRoads
import PyProof.ReprLen
import PyProof.ReprText
import HandS.Wide
import HandS.WideBits
import HandS.Style
import HandS.Zip
import HandS.Flow
import PyProof.Rows.RuleB_pow
import PyProof.FitsInt
import PyProof.Rows.StrJoinMade
import HandS.IsInst
import HandS.TupAny
import HandS.Text
import PyProof.Rows.ReprOcc
import PyProof.FitsReplace
import PyProof.StrLawsRepr
import HandS.Replace
import HandS.Conv
import HandS.Sort
import HandS.Iter
import HandS.TupMul
import KE.GoesMore
import HandS.Rev
import HandS.Dict
import PyProof.ReprReads
import PyProof.CallFns
import PyProof.Rows.IntBool
import PyProof.CallStr
import PyProof.ReprBulk
import HandS.Exc
import HandS.ExcIs
import HandS.ExcField
import HandS.ExcOwn
import HandS.ExcValue
import KE.KExcIs
import HandS.Lambda
import HandS.EndTab
import HandS.ExcInit
import HandS.WordsExc
import HandS.MakeKwOnly
import PySem.Challenge.RW_localblocks_k00_errors_and_their_values
set_option Elab.async false
set_option linter.all false
set_option maxRecDepth 100000
namespace Loc
open PySem PySem.Spec PyProof.Rows L2
/-! ### defs that are entered while no repr is under way -/
/-- as FnOk, for such an entry alone -/
structure FnG (P : Program) (w : World) (K : PySem.W.Frag) (mg : Str → Option Value) (base : Heap) (CX : CXT)
    (k : Nat) (f : Addr) (fd : FuncData) (ps : List Str) (sp : Sp) : Prop where
  cnt : ∀ {vs H Q E}, sp vs H Q E → vs.length = ps.length
  go : ∀ {A : Around} {out : List Env} {s : Shared} {H : Hp} {ar : Args} {us : List Value} {vs : List V} {Q : VK} {E : XK},
    A.guards = some [] → Room k A → Env0 P w K mg base A out s H → BindsTo s fd ar (ps.zip us) → Vals vs us → sp vs H Q E →
    codeAny (model P w) A (.call (.ref f) ar) (CR CX out P w H s Q E) s
section
variable {P : Program} {w : World} {K : PySem.W.Frag} {mg : Str → Option Value} {base : Heap} {CX : CXT} {k : Nat} {f : Addr} {fd : FuncData} {ps : List Str} {sp : Sp}
theorem FnG.of (F : FnOk P w K mg base CX k f fd ps sp) : FnG P w K mg base CX k f fd ps sp :=
  ⟨fun h => F.len _ _ _ _ h, fun _ hr he hb hv hs => F.run _ _ _ _ _ _ _ _ _ hr he hb hv hs⟩
theorem FnG.up {j : Nat} (F : FnG P w K mg base CX j f fd ps sp) (h : j ≤ k) : FnG P w K mg base CX k f fd ps sp :=
  ⟨F.cnt, fun g hr he hb hv hs => F.go g (hr.mono h) he hb hv hs⟩
/-- a def by its body, entered while no repr is under way -/
theorem fun_okG {x qual : Str} {st : Stmt} {N : List Str} (F : Fun K x qual st f fd) (S : FnScope N ps (defScope st)) (len : ∀ vs H Q E, sp vs H Q E → vs.length = ps.length)
    (hb : ∀ (cdv : Value) (A : Around) (out : List Env) (s : Shared) (H : Hp) (vs : List V) (Q : VK) (E : XK), A.guards = some [] →
      Room k (A.deeper (envOfC qual (defScope st) s.heap.objs.size f cdv)) → sp vs H Q E →
      ∃ t, PSs (cxOf CX P w K mg base N qual (defScope st) f cdv A out s H E).nox (defBody st) t ∧ t { nx := fun _ H' => Q .non H', rt := Q } (start N vs) H) :
    FnG P w K mg base CX (k + 1) f fd ps sp := by
  refine ⟨fun h => len _ _ _ _ h, fun {A out s H ar us vs Q E} hg hr e0 hbd r hsp => ?_⟩
  obtain ⟨oc, od, kV, doc, pm, an, cdv, ct, osl, rfl, lk, hcd⟩ := F.ex
  obtain ⟨t, ht, hq⟩ := hb cdv A out s H vs Q E hg (hr.deeper _) hsp
  have KX : K.In s.heap := e0.mod.kin.keeps fun b o e => (e0.bs b o e).1
  have lim : s.heap.NoLimit := e0.mod.nolimit.keeps fun b o e => (e0.bs b o e).1
  have kinds : ∀ y ∈ ps.zip us, (defScope st).names.lookup y.1 = some .local ∨ ((defScope st).names.lookup y.1 = some .cell ∧
      ((cellsFrom (s.heap.objs.size + 1) (defScope st).names []).lookup y.1).isSome = true) := by
    rintro ⟨n, v⟩ hy
    exact (S.par n (List.of_mem_zip hy).1).elim .inl fun q => .inr ⟨q, PySem.W.cellsFrom_some _ _ _ (.inl q)⟩
  refine codeAny_call_function hr.depth (KX _ _ lk) rfl S.co S.gen rfl (PySem.W.codeRec_of KX hcd) (hbd _ _ _ _ ?_)
  refine wpAny_newFunctionEnv_cells S.kind kinds fun env he s1 x => ?_
  subst he
  refine ⟨lim.keeps x.toInCall.keep, codeAny_func ?_⟩
  have I := inv_start (CX := CX) (E := E) (P := P) (w := w) S hr.hd e0 (len _ _ _ _ hsp) r x
  refine wpAny_mono (ht.nox.run [] s1 (start N vs) H _ I hq) (fun fl s' hs => ?_) fun _ _ hs => hs
  cases fl with
  | ret u => exact let ⟨v, σ', H', J, rv, q⟩ := hs; ⟨v, H', J.os, J.bare, J.base, J.hok, rv, q⟩
  | next => exact let ⟨σ', H', J, q⟩ := hs; ⟨V.non, H', J.os, J.bare, J.base, J.hok, rfl, q⟩
  | brk => exact let ⟨_, _, _, q⟩ := hs; q.elim
  | cont => exact let ⟨_, _, _, q⟩ := hs; q.elim
end
/-! ### repr of nested data -/
/-- repr(v), v nested data (no dict) that a heap bears -/
def rRep (K : PySem.W.Frag) : List V → Hp → VK → Prop := fun xs H Q => ∃ a d, xs = [.ref a] ∧ Dp K H (.ref a) d ∧
  d.showable = true ∧ d.hasDict = false ∧ d.depth ≤ 62 ∧ d.shown.length ≤ sizeLine ∧ Q (.str d.shown) H
theorem call_rep {X : Cx} {k : Nat} (hr : Room k X.A) (hg : X.A.guards = some []) : CallR X (.builtin "repr") (rRep X.K) := by
  intro pins s σ H xs us Q I r h
  obtain ⟨a, d, rfl, hd, h1, h2, h3, h4, q⟩ := h
  obtain ⟨u, rfl, ru⟩ := vals1 r
  cases ru
  obtain ⟨as, rd⟩ := Dp.reads I d _ _ hd rfl
  have hu := hr.units
  exact repr_of_reads' rd h1 (PyData.noDict_hsm h2) hg (by omega) (fun _ _ e => e) (fun h' u tk hk => ⟨.str d.shown, H, I.kept hk, ⟨u, rfl⟩, q⟩) h4
/-! ### nested data that a heap bears -/
theorem DpAll.ints {K : PySem.W.Frag} {H : Hp} : ∀ ns : List Int, DpAll K H (ns.map V.int) (ns.map PyData.int)
  | [] => .nil
  | n :: r => .cons (.int n) (DpAll.ints r)
mutual
theorem Dp.same {K : PySem.W.Frag} {H H' : Hp} (e : ∀ a, (∀ xs, SqL K H a xs → SqL K H' a xs) ∧ ∀ xs, SqT K H a xs → SqT K H' a xs) : ∀ {v : V} {d : PyData}, Dp K H v d → Dp K H' v d
  | _, _, .non => .non
  | _, _, .bl b => .bl b
  | _, _, .int i => .int i
  | _, _, .str x => .str x
  | _, _, .lst h t => .lst ((e _).1 _ h) (DpAll.same e t)
  | _, _, .tup h t => .tup ((e _).2 _ h) (DpAll.same e t)
theorem DpAll.same {K : PySem.W.Frag} {H H' : Hp} (e : ∀ a, (∀ xs, SqL K H a xs → SqL K H' a xs) ∧ ∀ xs, SqT K H a xs → SqT K H' a xs) : ∀ {vs : List V} {ds : List PyData}, DpAll K H vs ds → DpAll K H' vs ds
  | _, _, .nil => .nil
  | _, _, .cons h t => .cons (Dp.same e h) (DpAll.same e t)
end
end Loc

set_option Elab.async false
set_option linter.all false
set_option maxRecDepth 100000
namespace Loc
open PySem PySem.Spec PyProof.Rows L2
/-- the law's call, its def entered while no repr is under way -/
theorem callG {P : Program} {w : World} {K : PySem.W.Frag} {mg mb : Str → Option Value} {k : Nat} {fa a : Addr} {fd : FuncData} {x : Str} {sp : Sp} {s : Shared} {vs : List Value} {ns : List Int}
    (KX : K.In s.heap) (g1 : s.heap.Ns mainGlobals mg) (g2 : s.heap.Ns builtinsNs mb) (g3 : ∀ x : Str, x ≠ "__name__" → mb x = bootBuiltins x) (lim : s.heap.NoLimit) (gs : s.gens = #[])
    (ha : s.heap.get? a = some { cls := .type "list", data := .seq vs.toArray }) (hi : IntsAre vs ns) (hl : ns.length ≤ sizeLine) (hr : Room k callerA)
    (F : ∀ base : Heap, K.In base → base.Ns mainGlobals mg → FnG P w K mg base CX0 k fa fd [x] sp) (hb : ∀ (s : Shared) (u : Value), BindsTo s fd ⟨[u], []⟩ [(x, u)])
    (hsp : ∀ H : Hp, SqL K H a (ns.map V.int) → sp [.ref a] H (fun v _ => v = .bl true) fun _ _ _ => False) :
    codeAny (model P w) callerA (.call (.ref fa) ⟨[.ref a], []⟩) (fun r s' => r = .ok (.ret (.bool true)) ∧ OldK s.heap s'.heap ∧ s'.os = s.os ∧ AllBare s'.gens) s := by
  have rv := vals_ints hi
  have ln := hi.length
  -- H tracks at most the script, and that only where the module has not written it
  have main : ∀ H : Hp, (∀ b, H b = none ∨ (b = a ∧ K.lookup a = none ∧ ∃ o xs, H b = some (.frz o (.lst xs)))) → SqL K H a (ns.map V.int) → HOk P w H s.heap →
      codeAny (model P w) callerA (.call (.ref fa) ⟨[.ref a], []⟩) (fun r s' => r = .ok (.ret (.bool true)) ∧ OldK s.heap s'.heap ∧ s'.os = s.os ∧ AllBare s'.gens) s := by
    intro H only sq hok
    have nsOf : ∀ {b : Addr} {m : Str → Option Value}, s.heap.Ns b m → (hidT s.heap H).Ns b m := by
      rintro b m ⟨o, es, ep, e, d, r⟩
      refine ⟨o, es, ep, hidT_get e ?_, d, r⟩
      rcases only b with z | ⟨rfl, _, _⟩
      · exact z
      · rw [ha] at e
        cases e
        exact Data.noConfusion d
    have kb : K.In (hidT s.heap H) := fun b o e => hidT_get (KX b o e) (by
      rcases only b with z | ⟨rfl, z, _⟩
      · exact z
      · rw [z] at e
        cases e)
    obtain ⟨mc, l1, l2⟩ := lim
    have e0 : Env0 P w K mg (hidT s.heap H) callerA [] s H :=
      { frames := rfl, mod := ⟨kb, nsOf g1, ⟨mb, nsOf g2, g3⟩, ⟨mc, nsOf l1, l2⟩⟩, bs := fun _ _ e => of_hidT e, bsz := Nat.le_of_eq (hidT_size _ _), funs := trivial,
        frf := fun b hb => absurd (show b ∈ ([] : List Addr) from hb) List.not_mem_nil, hok := hok, bare := .of_eq gs }
    refine codeAny_mono ((F _ kb (nsOf g1)).go (us := [.ref a]) (vs := [.ref a]) rfl hr e0 (hb s (.ref a)) (.cons rfl .nil) (hsp H sq)) fun r s' h => ?_
    match r, h with
    | .error e, h => exact h.elim
    | .ok .next, h => exact h.elim
    | .ok .brk, h => exact h.elim
    | .ok .cont, h => exact h.elim
    | .ok (.ret u), ⟨v, H', os, bare, un, hok', rel, q⟩ =>
      have q' : v = .bl true := q
      subst q'
      have ru : u = Value.bool true := rel
      subst ru
      refine ⟨rfl, OldK.of_keep fun b o e => ?_, os, bare⟩
      rcases only b with z | ⟨_, _, ob, xs, z⟩
      · exact un.keep b o e z (fun m => absurd (show b ∈ ([] : List Addr) from m) List.not_mem_nil) List.not_mem_nil
      · have o1 := (hok b _ z).1
        have o2 := (hok' b _ (un.frzs b ob _ z)).1
        rw [e] at o1
        cases o1
        exact o2
  cases hk : K.lookup a with
  | some o =>
    have e := KX a o hk
    rw [ha] at e
    cases e
    refine main (fun _ => none) (fun _ => .inl rfl) (.inr ⟨_, vs.toArray, _, hk, rfl, rfl, rfl, ?_, by simpa using rv⟩) fun b u z => nomatch (show (none : Option HO) = some u from z)
    rw [List.size_toArray, ln]
    exact hl
  | none =>
    refine main (fun b => if b = a then some (.frz { cls := .type "list", data := .seq vs.toArray } (.lst (ns.map V.int))) else none) (fun b => ?_) (.inl (.inr ⟨_, if_pos rfl⟩)) fun b u z => ?_
    · by_cases e : b = a
      · exact .inr ⟨e, hk, _, _, if_pos e⟩
      · exact .inl (if_neg e)
    · by_cases e : b = a
      · have z' := (if_pos e).symm.trans z
        cases z'
        rw [e]
        exact ⟨ha, by rw [List.length_map]; exact hl, vs, _, rv, ha⟩
      · have z' := (if_neg e).symm.trans z
        cases z'
/-- the goal that k_head leaves, from such a promise of the law's def -/
theorem walkG {l : PySem.W.OpenLaw} {n k : Nat} {q : Program} {loose : List Str} {XP : (Str → Option Value) → Heap → Prop} {YP : World → Heap → Prop} {d : DefRec} {K : Params → PySem.W.Frag} {sp : PySem.W.Frag → Sp} {x : Str}
    (hn : l.most = some n) (hz : n ≤ sizeLine) (hd : d.params.defaults = []) (hr : Room k callerA) (hY : ∀ (w : World) (h : Heap), YP w h → (K w.params).In h)
    (F : ∀ (w : World) (mg : Str → Option Value) (fa : Addr) (h : Heap), (K w.params).In h → h.Ns mainGlobals mg → mg d.name = some (.ref fa) →
      ∃ fd : FuncData, (∀ (s : Shared) (u : Value), BindsTo s fd ⟨[u], []⟩ [(x, u)]) ∧
        ∀ base : Heap, (K w.params).In base → base.Ns mainGlobals mg → FnG l.prog w (K w.params) mg base CX0 k fa fd [x] (sp (K w.params)))
    (hsp : ∀ (K : PySem.W.Frag) (H : Hp) (a : Addr) (ns : List Int), ns.length ≤ n → SqL K H a (ns.map V.int) → sp K [.ref a] H (fun v _ => v = .bl true) fun _ _ _ => False) :
    PySem.W.WalkO q loose XP YP l.row.toRowW d [] (fun f vs => PySem.call f vs) := by
  refine Att.attach_call hn hd fun w s0 s1 mg mb fa o pm cd doc a vs ns G Y ho hd' hcd hmg hobj hints hlen hg => ?_
  obtain ⟨fd, hb, hF⟩ := F w mg fa _ (hY w _ Y) G.T.g hmg
  exact callG (hY w _ Y) G.T.g G.T.b G.T.builtins G.T.nolimit hg hobj hints (Nat.le_trans hlen hz) hr hF hb fun H hS => hsp _ H a ns hlen hS
end Loc

set_option Elab.async false
set_option linter.all false
set_option maxRecDepth 100000
/-! ### the heap but for one object -/
namespace Loc
open PySem PySem.Spec PyProof.Rows L2
/-- all but what stands at p is as it was -/
def But (p : Addr) (H H' : Hp) : Prop := ∀ b o, b ≠ p → H b = some o → H' b = some o
theorem But.refl (p : Addr) (H : Hp) : But p H H := fun _ _ _ h => h
theorem But.trans {p : Addr} {H H1 H2 : Hp} (a : But p H H1) (b : But p H1 H2) : But p H H2 := fun c o n h => b c o n (a c o n h)
theorem But.set {p : Addr} {H : Hp} {o : HO} : But p H (upd H p o) := fun b _ n h => by rw [upd_ne n]; exact h
theorem But.new {p q : Addr} {H : Hp} {o : HO} (h : H q = none) : But p H (upd H q o) := fun b _ _ e => by rw [upd_ne (ne_of_none e h)]; exact e
theorem But.at {p b : Addr} {H H' : Hp} {o : HO} (e : But p H H') (n : b ≠ p) (h : H b = some o) : H' b = some o := e b o n h
theorem But.sql {p a : Addr} {K : PySem.W.Frag} {H H' : Hp} {xs : List V} (e : But p H H') (n : a ≠ p) (h : SqL K H a xs) : SqL K H' a xs := by
  rcases h with (h | ⟨o, h⟩) | h
  · exact .inl (.inl (e _ _ n h))
  · exact .inl (.inr ⟨o, e _ _ n h⟩)
  · exact .inr h
/-- a tuple is no list -/
theorem But.sqt {p a : Addr} {K : PySem.W.Frag} {H H' : Hp} {xs ys : List V} (e : But p H H') (hp : H p = some (.lst ys)) (h : SqT K H a xs) : SqT K H' a xs := by
  rcases h with (h | ⟨o, h⟩) | h
  · exact .inl (.inl (e _ _ (ne_of h hp (by intro z; cases z)) h))
  · exact .inl (.inr ⟨o, e _ _ (ne_of h hp (by intro z; cases z)) h⟩)
  · exact .inr h
/-! ### the pot that the law draws from -/
/-- a pot's three numbers, drawn from at most c times -/
def PotO (o : HO) (c : Nat) : Prop := ∃ own mix cnt : Int, o = .lst [.int own, .int mix, .int cnt] ∧ 0 ≤ own ∧ own < 2 ^ 1000 ∧ 0 ≤ mix ∧ mix < 2305843009213693952 ∧ 0 ≤ cnt ∧ cnt ≤ c
def Pot (H : Hp) (p : Addr) (c : Nat) : Prop := ∃ o, H p = some o ∧ PotO o c
theorem PotO.le {o : HO} {c d : Nat} (h : PotO o c) (l : c ≤ d) : PotO o d := by
  obtain ⟨a, b, e, h1, h2, h3, h4, h5, h6, h7⟩ := h
  exact ⟨a, b, e, h1, h2, h3, h4, h5, h6, by omega⟩
theorem Pot.le {H : Hp} {p : Addr} {c d : Nat} (h : Pot H p c) (l : c ≤ d) : Pot H p d := let ⟨o, e, q⟩ := h; ⟨o, e, q.le l⟩
theorem Pot.ls {H : Hp} {p : Addr} {c : Nat} (h : Pot H p c) : ∃ ys, H p = some (.lst ys) := by
  obtain ⟨o, e, a, b, z, rfl, _⟩ := h
  exact ⟨_, e⟩
theorem Pot.new {H : Hp} {p q : Addr} {c : Nat} {o : HO} (h : Pot H p c) (n : H q = none) : Pot (upd H q o) p c := by
  obtain ⟨x, e, r⟩ := h
  exact ⟨x, by rw [upd_ne (ne_of_none e n)]; exact e, r⟩
theorem Pot.oth {H : Hp} {p q : Addr} {c : Nat} {o : HO} (h : Pot H p c) (n : p ≠ q) : Pot (upd H q o) p c := by
  obtain ⟨x, e, r⟩ := h
  exact ⟨x, by rw [upd_ne n]; exact e, r⟩
theorem Pot.put {H : Hp} {p : Addr} {c : Nat} {o : HO} (h : PotO o c) : Pot (upd H p o) p c := ⟨o, upd_same, h⟩

/-- script: the script; k: a small number -/
def spPot (K : PySem.W.Frag) : Sp := fun vs H Q _ => ∃ (a : Addr) (ns : List Int) (k : Nat), vs = [.ref a, .int k] ∧ SqL K H a (ns.map V.int) ∧ ns.length ≤ 1000 ∧ k ≤ 1000 ∧
  ∀ p o, H p = none → PotO o 0 → Q (.ref p) (upd H p o)
def spTake : Sp := fun vs H Q _ => ∃ (p : Addr) (b : Int) (c : Nat), vs = [.ref p, .int b] ∧ Pot H p c ∧ c < 1000000 ∧ 0 < b ∧ b < 2 ^ 1000 ∧
  ∀ (d : Int) H', 0 ≤ d → d < b → But p H H' → Pot H' p (c + 1) → Q (.int d) H'
def spOf : Sp := fun vs H Q _ => ∃ (p a : Addr) (xs : List V) (c : Nat), vs = [.ref p, .ref a] ∧ Pot H p c ∧ c < 1000000 ∧ a ≠ p ∧ H a = some (.lst xs) ∧ xs ≠ [] ∧ xs.length ≤ 1000 ∧
  ∀ (j : Nat) (x : V) H', xs[j]? = some x → But p H H' → Pot H' p (c + 1) → Q x H'

/-- ** of a great number -/
def CPowW (i j : Int) : Prop := 0 ≤ j ∧ (Builtin.Int.intBits i : Int) * j ≤ 2 ^ 27
theorem op_powW {X : Cx} : OpR X (binaryOp .Pow) (rI CPowW fun i j => .int (i ^ j.toNat)) := opI fun _ _ _ _ _ _ _ hc q => pow_int hc.1 hc.2 q
theorem pow60 : CPowW ((10 : Int) ^ (60 : Int).toNat) 5 := ⟨by decide, by decide +kernel⟩
theorem small_line {n : Nat} (h : n ≤ 100000) : n ≤ sizeLine := Nat.le_trans h (by decide)
theorem small_line' {n : Nat} (h : n ≤ 100000) : n < sizeLine := Nat.lt_of_le_of_lt h (by decide)
end Loc
namespace Loc
open PySem PySem.Spec PyProof.Rows L2
/-- two ways that meet in what S says of the value -/
theorem joinIf {b : Bool} {ta tb : TE} {σ : L2.St} {H : Hp} {Q : VK} (S : VK) (key : ∀ v H', S v H' → Q v H') (h1 : b = true → ∀ R : VK, (∀ v H', S v H' → R v H') → ta σ H R)
    (h2 : b = false → ∀ R : VK, (∀ v H', S v H' → R v H') → tb σ H R) : if b = true then ta σ H Q else tb σ H Q := by
  cases b
  · rw [if_neg Bool.false_ne_true]
    exact h2 rfl Q key
  · rw [if_pos rfl]
    exact h1 rfl Q key
theorem mod_pos {a m : Int} (h : 0 < m) : 0 ≤ a % m ∧ a % m < m := ⟨Int.emod_nonneg _ (by omega), Int.emod_lt_of_pos _ h⟩
theorem pow300 : ((10 : Int) ^ (60 : Int).toNat) ^ (5 : Int).toNat < 2 ^ 1000 := by decide +kernel
theorem pow300' : 0 < ((10 : Int) ^ (60 : Int).toNat) ^ (5 : Int).toNat := by decide +kernel
end Loc
namespace Loc
theorem bit_small (b : Bool) : -(2 ^ 64) < (if b = true then (1 : Int) else 0) ∧ (if b = true then (1 : Int) else 0) < 2 ^ 64 := by
  cases b <;> decide
theorem mul_bit {a m : Int} (h : 0 ≤ a ∧ a < m) (b : Bool) : 0 ≤ a * (if b = true then (1 : Int) else 0) ∧ a * (if b = true then (1 : Int) else 0) < m := by
  cases b
  · rw [if_neg Bool.false_ne_true, Int.mul_zero]
    omega
  · rw [if_pos rfl, Int.mul_one]
    exact h
end Loc
namespace Loc
theorem natAbs_lt {b : Int} {n : Nat} (h0 : 0 ≤ b) (h : b < 2 ^ n) : b.natAbs < 2 ^ n := by
  obtain ⟨m, rfl⟩ := Int.eq_ofNat_of_zero_le h0
  rw [← PySem.W.kbt_cast n] at h
  exact Int.ofNat_lt.mp h
theorem div_small {a b : Int} (h0 : 0 ≤ a) (h : 0 < b) : 0 ≤ a / b ∧ a / b ≤ a := ⟨Int.ediv_nonneg h0 (by omega), Int.ediv_le_self b h0⟩
/-- the five numbers that a draw is reckoned with -/
theorem prime_at {n : Int} (h : 0 ≤ n) : ∃ q : Int, L2.atI [L2.V.int 2147483647, .int 2147483629, .int 2147483587, .int 2147483579, .int 2147483563] (n % 5) = some (.int q) ∧ 0 < q ∧ q < 2147483648 := by
  have m := Int.emod_nonneg n (show (5 : Int) ≠ 0 by decide)
  have l := Int.emod_lt_of_pos n (show (0 : Int) < 5 by decide)
  generalize n % 5 = r at m l
  have c : r = 0 ∨ r = 1 ∨ r = 2 ∨ r = 3 ∨ r = 4 := by omega
  rcases c with rfl | rfl | rfl | rfl | rfl
  · exact ⟨2147483647, rfl, by decide, by decide⟩
  · exact ⟨2147483629, rfl, by decide, by decide⟩
  · exact ⟨2147483587, rfl, by decide, by decide⟩
  · exact ⟨2147483579, rfl, by decide, by decide⟩
  · exact ⟨2147483563, rfl, by decide, by decide⟩
/-- what stands under the third power -/
theorem base_small {mix c : Int} (h3 : 0 ≤ mix) (h4 : mix < 2305843009213693952) (h5 : 0 ≤ c) (h6 : c ≤ 1000000) : 0 ≤ mix + 99991 * c * c + 29 ∧ mix + 99991 * c * c + 29 < 2 ^ 64 := by
  have k1 : 0 ≤ c * c := Int.mul_nonneg h5 h5
  have k2 : c * c ≤ 1000000 * 1000000 := Int.mul_le_mul h6 h6 h5 (by decide)
  rw [Int.mul_assoc]
  omega
end Loc
namespace Loc
theorem small_pow {n : Nat} (h : n ≤ 1000) : (n : Int) < 2 ^ 1000 := Int.lt_of_le_of_lt (show (n : Int) ≤ 1000 by omega) (by decide +kernel)
end Loc
namespace Loc
open PySem PySem.Spec PyProof.Rows L2
theorem sameT {K : PySem.W.Frag} {H H' : Hp} {a : Addr} {xs : List V} (e : Same H H') (h : SqT K H a xs) : SqT K H' a xs := by
  rcases h with (h | ⟨o, h⟩) | h
  · exact .inl (.inl (e _ _ h))
  · exact .inl (.inr ⟨o, e _ _ h⟩)
  · exact .inr h
theorem sameN {H : Hp} {p : Addr} {o : HO} (h : H p = none) : Same H (upd H p o) := fun b x e => by rw [upd_ne (ne_of_none e h)]; exact e
/-- a new object is written again -/
theorem sameW {H H' : Hp} {p : Addr} {o : HO} (e : Same H H') (h : H p = none) : Same H (upd H' p o) := fun b x q => by rw [upd_ne (ne_of_none q h)]; exact e b x q
theorem Same.but {H H' : Hp} {p : Addr} (e : Same H H') : But p H H' := fun b o _ h => e b o h
theorem But.same {H H' : Hp} {p : Addr} (e : But p H H') (h : H p = none) : Same H H' := fun b o q => e b o (ne_of_none q h) q
/-- a new object is written again -/
theorem But.wr {p q : Addr} {H H' : Hp} {o : HO} (e : But p H H') (h : H q = none) : But p H (upd H' q o) := fun b x n r => by rw [upd_ne (ne_of_none r h)]; exact e b x n r
theorem small_take {α : Type} {l : List α} {i n : Nat} (h : l.length ≤ n) : (l.take i).length ≤ n := by
  rw [List.length_take]
  omega
theorem line5 {n : Nat} (h : n ≤ 100000) : n < sizeLine := small_line' h
end Loc
namespace Loc
open PySem PySem.Spec PyProof.Rows L2
/-- a list or a tuple -/
def SqA (K : PySem.W.Frag) (H : Hp) (a : Addr) (xs : List V) : Prop := SqL K H a xs ∨ SqT K H a xs
theorem SqA.same {K : PySem.W.Frag} {H H' : Hp} {a : Addr} {xs : List V} (h : SqA K H a xs) (e : Same H H') : SqA K H' a xs := h.imp e.seq (sameT e)
theorem SqA.ix {K : PySem.W.Frag} {H : Hp} {a : Addr} {xs : List V} {i : Int} {v : V} {Q : VK} (h : SqA K H a xs) (e : atI xs i = some v) (q : Q v H) : rIx K (.ref a) (.int i) H Q := by
  rcases h with h | h
  · exact .inl ⟨a, xs, i, v, rfl, rfl, h, e, q⟩
  · exact .inr (.inl ⟨a, xs, i, v, rfl, rfl, h, e, q⟩)
theorem half_pow (x t : Nat) : ((x / 2 ^ t : Nat) : Int) / 2 = ((x / 2 ^ (t + 1) : Nat) : Int) := by
  rw [Nat.pow_succ, ← Nat.div_div_eq_div_mul]
  omega
end Loc
namespace Loc
theorem get_of {α : Type} {l : List α} {i : Nat} (h : i < l.length) : ∃ x, l[i]? = some x := ⟨l[i], List.getElem?_eq_getElem h⟩
end Loc
namespace Loc
theorem take_more {α : Type} {l : List α} {i : Nat} {x : α} (h : l[i]? = some x) : l.take (i + 1) = l.take i ++ [x] := by
  rw [List.take_add_one, h]
  rfl
theorem int_congr {a b : Int} (h : a = b) : L2.V.int a = L2.V.int b := by rw [h]
end Loc
namespace Loc
open PySem PySem.Spec PyProof.Rows L2
/-- a value that is one of those that S tells -/
theorem anyE {te : TE} {σ : L2.St} {H : Hp} {Q : VK} (S : VK) (key : ∀ v H', S v H' → Q v H') (h : ∀ R : VK, (∀ v H', S v H' → R v H') → te σ H R) : te σ H Q := h Q key
theorem anyT {t : TT} {σ : L2.St} {H : Hp} {Q : Bool → Hp → Prop} (S : Bool → Hp → Prop) (key : ∀ b H', S b H' → Q b H') (h : ∀ R : Bool → Hp → Prop, (∀ b H', S b H' → R b H') → t σ H R) : t σ H Q := h Q key
theorem joinS {b : Bool} {t u : TS} {D : Ends} {σ : L2.St} {H : Hp} (S : L2.St → Hp → Prop) (key : ∀ σ' H', S σ' H' → D.nx σ' H')
    (h1 : b = true → ∀ N : L2.St → Hp → Prop, (∀ σ' H', S σ' H' → N σ' H') → t { D with nx := N } σ H)
    (h2 : b = false → ∀ N : L2.St → Hp → Prop, (∀ σ' H', S σ' H' → N σ' H') → u { D with nx := N } σ H) : if b = true then t D σ H else u D σ H := by
  cases b
  · rw [if_neg Bool.false_ne_true]
    exact h2 rfl D.nx key
  · rw [if_pos rfl]
    exact h1 rfl D.nx key
theorem But.free {p q : Addr} {H H' : Hp} {o : HO} (e : But p H H') (hp : H' p = some o) (h : H' q = none) : H q = none := by
  cases z : H q with
  | none => rfl
  | some x =>
    have n : q ≠ p := fun k => by rw [k, hp] at h; cases h
    rw [e q x n z] at h
    cases h
theorem Pot.ex {H : Hp} {p : Addr} {c : Nat} (h : Pot H p c) : ∃ o, H p = some o := let ⟨o, e, _⟩ := h; ⟨o, e⟩
theorem But.freeP {p q : Addr} {H H' : Hp} {c : Nat} (e : But p H H') (hp : Pot H' p c) (h : H' q = none) : H q = none := let ⟨_, k⟩ := hp.ex; e.free k h
theorem Pot.ne {H : Hp} {p q : Addr} {c : Nat} (hp : Pot H p c) (h : H q = none) : q ≠ p := fun z => by
  obtain ⟨o, e⟩ := hp.ex
  rw [z, e] at h
  cases h
/-! lists of ints as data -/
theorem canLay_ints : ∀ ns : List Int, PyData.canLayAll0 (ns.map PyData.int) = true
  | [] => rfl
  | n :: r => by
    show (PyData.canLay0 (.int n) && PyData.canLayAll0 (r.map PyData.int)) = true
    rw [canLay_ints r]
    rfl
theorem depth_ints : ∀ ns : List Int, PyData.depthAll (ns.map PyData.int) ≤ 1
  | [] => by simp [PyData.depthAll]
  | n :: r => by
    have := depth_ints r
    simp only [List.map_cons, PyData.depthAll, PyData.depth]
    omega
theorem shaped_ints (ns : List Int) : SeqAt.shaped (.list (ns.map PyData.int)) = true ∧ SeqAt.shaped (.tuple (ns.map PyData.int)) = true := by
  have d := depth_ints ns
  constructor
  · unfold SeqAt.shaped
    rw [Bool.and_eq_true]
    exact ⟨by simpa [PyData.canLay0] using canLay_ints ns, decide_eq_true (by simp only [PyData.depth]; omega)⟩
  · unfold SeqAt.shaped
    rw [Bool.and_eq_true]
    exact ⟨by simpa [PyData.canLay0] using canLay_ints ns, decide_eq_true (by simp only [PyData.depth]; omega)⟩
/-- xs == [], xs of ints -/
theorem eqv_empty (ns : List Int) : PyData.eqv (.list (ns.map PyData.int)) (.list []) = ns.isEmpty := by
  cases ns <;> simp [PyData.eqv, PyData.eqvAll]
theorem eqv_emptyT (ns : List Int) : PyData.eqv (.tuple (ns.map PyData.int)) (.tuple []) = ns.isEmpty := by
  cases ns <;> simp [PyData.eqv, PyData.eqvAll]
end Loc
namespace Loc
theorem pow_of {d : Int} {n : Nat} (h0 : 0 ≤ d) (h : d ≤ n) : ∃ m : Nat, (1 : Int) * 2 ^ d.toNat = (m : Int) ∧ 0 < m ∧ m ≤ 2 ^ n := by
  refine ⟨2 ^ d.toNat, ?_, Nat.two_pow_pos _, Nat.pow_le_pow_right (by decide) (by omega)⟩
  rw [Int.one_mul, PySem.W.kbt_cast]
end Loc
namespace Loc
open PySem PySem.Spec PyProof.Rows L2
theorem cb1_any {r : List V → Hp → VK → Prop} {te : TE} {σ : L2.St} {H : Hp} {Q : VK} (S : VK) (key : ∀ v H', S v H' → r [v] H' Q) (h : ∀ R : VK, (∀ v H', S v H' → R v H') → te σ H R) : tCB r (tCons te tNil) σ H Q := h _ key
theorem cons_any {te : TE} {tr : TA} {σ : L2.St} {H : Hp} {Q : List V → Hp → Prop} (S : VK) (key : ∀ v H', S v H' → tr σ H' fun vs H2 => Q (v :: vs) H2) (h : ∀ R : VK, (∀ v H', S v H' → R v H') → te σ H R) : tCons te tr σ H Q := h _ key
theorem if_any {T : TT} {ta tb : TE} {σ : L2.St} {H : Hp} {Q : VK} (S : Bool → Hp → Prop) (key : ∀ b H', S b H' → if b = true then ta σ H' Q else tb σ H' Q) (h : ∀ R : Bool → Hp → Prop, (∀ b H', S b H' → R b H') → T σ H R) : tIf T ta tb σ H Q := h _ key
theorem ifs_any {T : TT} {t u : TS} {D : Ends} {σ : L2.St} {H : Hp} (S : Bool → Hp → Prop) (key : ∀ b H', S b H' → if b = true then t D σ H' else u D σ H') (h : ∀ R : Bool → Hp → Prop, (∀ b H', S b H' → R b H') → T σ H R) : tIfS T t u D σ H := h _ key
end Loc
namespace Loc
open PySem PySem.Spec PyProof.Rows L2
theorem cb1_var {r : List V → Hp → VK → Prop} {i : Nat} {σ : L2.St} {H : Hp} {Q : VK} (v : V) (h : σ[i]? = some (some v)) (k : r [v] H Q) : tCB r (tCons (tVar i) tNil) σ H Q := ⟨v, h, k⟩
end Loc

set_option Elab.async false
set_option linter.all false
set_option maxRecDepth 100000
namespace Loc
open PySem PySem.Spec PyProof.Rows L2 RZ
/-! ### repr of a tuple of ints -/
theorem shown_len {n : Nat} (h : n < 10 ^ 70) : (PyData.shown (.int (n : Int))).length ≤ 70 := by
  rw [PyData.shown_int]
  refine toString_length_le (Int.natCast_nonneg _) (by decide) ?_
  have := Int.ofNat_lt.mpr h
  exact Int.lt_of_lt_of_le this (by decide +kernel)
theorem shown_sum : ∀ ns : List Nat, (∀ n ∈ ns, n < 10 ^ 70) → ((PyData.shownAll ((ns.map fun n : Nat => (n : Int)).map PyData.int)).map (·.length)).sum ≤ 70 * ns.length
  | [], _ => by simp [PyData.shownAll]
  | n :: r, h => by
    have h1 := shown_len (h n List.mem_cons_self)
    have h2 := shown_sum r fun m hm => h m (List.mem_cons_of_mem _ hm)
    simp only [List.map_cons, PyData.shownAll, List.sum_cons, List.length_cons]
    omega
theorem log_small {n : Nat} (h : n < 10 ^ 70) : ((n : Int)).natAbs.log2 < 1920 := by
  rw [Int.natAbs_natCast]
  by_cases z : n = 0
  · subst z
    decide
  · exact (Nat.log2_lt z).mpr (Nat.lt_trans h (by decide +kernel))
theorem noDict_ints : ∀ ns : List Int, PyData.hasDictAll (ns.map PyData.int) = false
  | [] => by simp [PyData.hasDictAll]
  | n :: r => by simp [PyData.hasDictAll, PyData.hasDict, noDict_ints r]
/-- what repr asks of a tuple of small numbers -/
theorem rep_ints {K : PySem.W.Frag} {H : Hp} {a : Addr} {ns : List Nat} {Q : VK} (hS : SqT K H a (ns.map fun n : Nat => V.int (n : Int))) (h : ∀ n ∈ ns, n < 10 ^ 70) (hl : ns.length ≤ 100000)
    (q : Q (.str (PyData.shown (.tuple ((ns.map fun n : Nat => (n : Int)).map PyData.int)))) H) : rRep K [.ref a] H Q := by
  have dp := depth_ints (ns.map fun n : Nat => (n : Int))
  have sm := shown_sum ns h
  have e : (ns.map fun n : Nat => V.int (n : Int)) = (ns.map fun n : Nat => (n : Int)).map V.int := by
    rw [List.map_map]
    rfl
  rw [e] at hS
  refine ⟨a, _, rfl, .tup hS (DpAll.ints _), ?_, ?_, ?_, ?_, q⟩
  · show PyData.showableAll _ = true
    refine PyData.showableAll_ints _ fun n hn => ?_
    obtain ⟨m, hm, rfl⟩ := List.mem_map.mp hn
    exact log_small (h m hm)
  · show PyData.hasDictAll _ = false
    exact noDict_ints _
  · simp only [PyData.depth]
    omega
  · show (tupleText _).length ≤ sizeLine
    have t := tupleText_len_le (PyData.shownAll ((ns.map fun n : Nat => (n : Int)).map PyData.int))
    rw [PyData.shownAll_length, List.length_map, List.length_map] at t
    rw [sizeLine_eq]
    omega
/-! ### [.. for x, y in zip(t, u)], t and u tuples -/
theorem lc_zipT {K : PySem.W.Frag} {a b : Addr} {xs ys : List V} {g : TG} {tt : TT} {te : TE} {vs : List Nat} {σ : L2.St} {H1 : Hp} {D : Addr} {Qd : Hp → Prop} (Pv : Nat → Hp → Prop)
    (h0 : Pv 0 (upd H1 D (.lst []))) (hl : ∀ i H, Pv i H → SqT K H a xs ∧ SqT K H b ys)
    (hs : ∀ i x y T H, xs[i]? = some x → ys[i]? = some y → Pv i H → H T = none → g (.ref T) (wipe σ vs) (upd H T (.tup [x, y])) fun σ2 H2 => wipe σ2 vs = wipe σ vs ∧ tt σ2 H2 fun k H3 =>
      if k = true then te σ2 H3 fun z H4 => ∃ acc, H4 D = some (.lst acc) ∧ acc.length < sizeLine ∧ Pv (i + 1) (upd H4 D (.lst (acc ++ [z]))) else Pv (i + 1) H3)
    (hd : ∀ i H, Pv i H → (xs.length ≤ i ∨ ys.length ≤ i) → Qd H) :
    ∃ W : Nat → Nat → Hp → Prop, (∃ m, W 0 m (upd H1 D (.lst []))) ∧ ∀ i m H, W i m H →
      ((ItzT K a b).stop i H ∧ Qd H) ∨ ((ItzT K a b).go i H ∧ ∃ Nx : Hp → Prop, (∀ H', Nx H' → ∃ m', m' < m ∧ W (i + 1) m' H') ∧ ∀ x H', (ItzT K a b).yld i H x H' → g x (wipe σ vs) H' fun σ2 H2 => wipe σ2 vs = wipe σ vs ∧ tt σ2 H2 fun k H3 =>
        if k = true then te σ2 H3 fun y H4 => ∃ acc, H4 D = some (.lst acc) ∧ acc.length < sizeLine ∧ Nx (upd H4 D (.lst (acc ++ [y]))) else Nx H3) := by
  refine ⟨fun i m H => m = xs.length - i ∧ Pv i H, ⟨_, rfl, h0⟩, ?_⟩
  rintro i m H ⟨rfl, p⟩
  obtain ⟨k1, k2⟩ := hl i H p
  by_cases c : i < xs.length ∧ i < ys.length
  · obtain ⟨x, gx⟩ := get_of c.1
    obtain ⟨y, gy⟩ := get_of c.2
    refine .inr ⟨⟨xs, ys, x, y, k1, k2, gx, gy⟩, Pv (i + 1), fun H' p' => ⟨xs.length - (i + 1), by omega, rfl, p'⟩, fun z H' hy => ?_⟩
    obtain ⟨T, x', y', rfl, hT, rfl, f1, f2⟩ := hy
    have ex : x' = x := Option.some.inj ((f1 _ k1).symm.trans gx)
    have ey : y' = y := Option.some.inj ((f2 _ k2).symm.trans gy)
    subst ex
    subst ey
    exact hs i _ _ T H gx gy p hT
  · have c' : xs.length ≤ i ∨ ys.length ≤ i := by omega
    exact .inl ⟨⟨xs, ys, k1, k2, c'⟩, hd i H p c'⟩
end Loc

set_option Elab.async false
set_option linter.all false
set_option maxRecDepth 100000
namespace Loc
open PySem PySem.Spec PyProof.Rows L2
/-! ### nodes -/
inductive Nd where
  | el (n : Nat)
  | run (b : Nd) (c : Nat)
  | blk (ps : List Nd)
mutual
def dat : Nd → PyData
  | .el n => .int n
  | .run b c => .tuple [.str "run", dat b, .int c]
  | .blk ps => .tuple [.str "block", .tuple (datAll ps)]
def datAll : List Nd → List PyData
  | [] => []
  | n :: r => dat n :: datAll r
end
def Nd.isRun : Nd → Bool
  | .run _ _ => true
  | _ => false
def Nd.isBlk : Nd → Bool
  | .blk _ => true
  | _ => false
def Nd.base : Nd → Nd
  | .run b _ => b
  | n => n
/-- neighbours with unlike bases -/
def Unb : List Nd → Prop
  | a :: b :: r => a.base ≠ b.base ∧ Unb (b :: r)
  | _ => True
mutual
/-- a node of this level -/
def Ok : Nd → Nat → Prop
  | .el n, l => l = 0 ∧ n ≤ 10 ^ 9
  | .run b c, l => 2 ≤ c ∧ c ≤ 10 ^ 60 ∧ b.isRun = false ∧ Ok b l
  | .blk ps, l => 1 ≤ l ∧ 2 ≤ ps.length ∧ ps.length ≤ 3 ∧ OkAll ps (l - 1) ∧ Unb ps
def OkAll : List Nd → Nat → Prop
  | [], _ => True
  | n :: r, l => Ok n l ∧ OkAll r l
end
theorem OkAll.mem : ∀ {ps : List Nd} {l : Nat}, OkAll ps l → ∀ n ∈ ps, Ok n l
  | [], _, _, n, h => nomatch h
  | a :: r, l, h, n, hn => by
    unfold OkAll at h
    rcases List.mem_cons.mp hn with rfl | hn
    · exact h.1
    · exact OkAll.mem h.2 n hn
theorem OkAll.of : ∀ {ps : List Nd} {l : Nat}, (∀ n ∈ ps, Ok n l) → OkAll ps l
  | [], _, _ => by unfold OkAll; trivial
  | a :: r, l, h => by
    unfold OkAll
    exact ⟨h a List.mem_cons_self, OkAll.of fun n hn => h n (List.mem_cons_of_mem _ hn)⟩
theorem datAll_map : ∀ ps : List Nd, datAll ps = ps.map dat
  | [] => by unfold datAll; rfl
  | n :: r => by
    unfold datAll
    rw [datAll_map r]
    rfl
theorem datAll_length (ps : List Nd) : (datAll ps).length = ps.length := by rw [datAll_map, List.length_map]
theorem unlike_sorts : (Str.ofString "run" == Str.ofString "block") = false ∧ (Str.ofString "block" == Str.ofString "run") = false := by
  constructor <;> decide +kernel
theorem eqv_rb (x y z : PyData) : PyData.eqv (.tuple [.str "run", x, y]) (.tuple [.str "block", z]) = false := by
  simp only [PyData.eqv, PyData.eqvAll, unlike_sorts.1, Bool.false_and]
theorem eqv_br (x y z : PyData) : PyData.eqv (.tuple [.str "block", z]) (.tuple [.str "run", x, y]) = false := by
  simp only [PyData.eqv, PyData.eqvAll, unlike_sorts.2, Bool.false_and]
mutual
theorem eqv_dat : ∀ a b : Nd, PyData.eqv (dat a) (dat b) = true ↔ a = b
  | .el n, .el m => by
    simp only [dat, PyData.eqv, beq_iff_eq, Nd.el.injEq]
    omega
  | .el _, .run _ _ => by simp [dat, PyData.eqv]
  | .el _, .blk _ => by simp [dat, PyData.eqv]
  | .run _ _, .el _ => by simp [dat, PyData.eqv]
  | .blk _, .el _ => by simp [dat, PyData.eqv]
  | .run a c, .run b d => by
    have ih := eqv_dat a b
    simp only [dat, PyData.eqv, PyData.eqvAll, beq_self_eq_true, Bool.true_and, Bool.and_true, Bool.and_eq_true, beq_iff_eq, Nd.run.injEq, ih]
    constructor
    · rintro ⟨h1, h2⟩
      exact ⟨h1, by omega⟩
    · rintro ⟨h1, h2⟩
      exact ⟨h1, by omega⟩
  | .run _ _, .blk _ => by simp [dat, eqv_rb]
  | .blk _, .run _ _ => by simp [dat, eqv_br]
  | .blk ps, .blk qs => by
    have ih := eqv_datAll ps qs
    simp only [dat, PyData.eqv, PyData.eqvAll, beq_self_eq_true, Bool.true_and, Bool.and_true, Nd.blk.injEq, ih]
theorem eqv_datAll : ∀ ps qs : List Nd, PyData.eqvAll (datAll ps) (datAll qs) = true ↔ ps = qs
  | [], [] => by simp [datAll, PyData.eqvAll]
  | [], _ :: _ => by simp [datAll, PyData.eqvAll]
  | _ :: _, [] => by simp [datAll, PyData.eqvAll]
  | a :: r, b :: q => by
    have h1 := eqv_dat a b
    have h2 := eqv_datAll r q
    simp only [datAll, PyData.eqvAll, Bool.and_eq_true, h1, h2, List.cons.injEq]
end
theorem eqv_no {a b : Nd} (h : a ≠ b) : PyData.eqv (dat a) (dat b) = false := by
  cases e : PyData.eqv (dat a) (dat b) with
  | false => rfl
  | true => exact absurd ((eqv_dat a b).mp e) h
theorem eqv_yes {a b : Nd} (h : a = b) : PyData.eqv (dat a) (dat b) = true := (eqv_dat a b).mpr h
theorem str_run_ok : PyData.canLay0 (.str "run") = true ∧ PyData.canLay0 (.str "block") = true := by
  constructor <;> decide +kernel
mutual
theorem canLay_dat : ∀ a : Nd, PyData.canLay0 (dat a) = true
  | .el n => by simp [dat, PyData.canLay0]
  | .run b c => by
    have h := canLay_dat b
    simp only [dat, PyData.canLay0, PyData.canLayAll0, h, str_run_ok.1, Bool.and_true]
    exact str_run_ok.1
  | .blk ps => by
    have h := canLay_datAll ps
    simp only [dat, PyData.canLay0, PyData.canLayAll0, h, Bool.and_true]
    exact str_run_ok.2
theorem canLay_datAll : ∀ ps : List Nd, PyData.canLayAll0 (datAll ps) = true
  | [] => by simp [datAll, PyData.canLayAll0]
  | a :: r => by
    have h1 := canLay_dat a
    have h2 := canLay_datAll r
    simp only [datAll, PyData.canLayAll0, h1, h2, Bool.and_true]
end
mutual
theorem depth_dat : ∀ (a : Nd) (l : Nat), Ok a l → (dat a).depth ≤ 3 * l + (if a.isRun then 1 else 0)
  | .el n, l, h => by simp [dat, PyData.depth]
  | .run b c, l, h => by
    unfold Ok at h
    have ih := depth_dat b l h.2.2.2
    rw [h.2.2.1] at ih
    simp only [dat, PyData.depth, PyData.depthAll, Nd.isRun, if_true]
    simp at ih
    omega
  | .blk ps, l, h => by
    unfold Ok at h
    have ih := depth_datAll ps (l - 1) h.2.2.2.1
    simp only [dat, PyData.depth, PyData.depthAll, Nd.isRun]
    simp
    omega
theorem depth_datAll : ∀ (ps : List Nd) (l : Nat), OkAll ps l → PyData.depthAll (datAll ps) ≤ 3 * l + 1
  | [], l, _ => by simp [datAll, PyData.depthAll]
  | a :: r, l, h => by
    unfold OkAll at h
    have h1 := depth_dat a l h.1
    have h2 := depth_datAll r l h.2
    simp only [datAll, PyData.depthAll]
    split at h1 <;> omega
end
theorem depth_le {a : Nd} {l : Nat} (h : Ok a l) : (dat a).depth ≤ 3 * l + 1 := by
  have := depth_dat a l h
  split at this <;> omega
theorem shaped_dat {a : Nd} {l : Nat} (h : Ok a l) (hl : l ≤ 20) : SeqAt.shaped (dat a) = true := by
  have d := depth_le h
  unfold SeqAt.shaped
  rw [Bool.and_eq_true]
  exact ⟨canLay_dat a, decide_eq_true (by omega)⟩
theorem shaped_all {ps : List Nd} {l : Nat} (h : OkAll ps l) (hl : l ≤ 20) : SeqAt.shaped (.list (datAll ps)) = true ∧ SeqAt.shaped (.tuple (datAll ps)) = true := by
  have d := depth_datAll ps l h
  unfold SeqAt.shaped
  simp only [Bool.and_eq_true]
  exact ⟨⟨by simpa [PyData.canLay0] using canLay_datAll ps, decide_eq_true (by simp only [PyData.depth]; omega)⟩, by simpa [PyData.canLay0] using canLay_datAll ps, decide_eq_true (by simp only [PyData.depth]; omega)⟩
/-! ### nodes that a heap bears -/
abbrev NdV (K : PySem.W.Frag) (H : Hp) (v : V) (a : Nd) : Prop := Dp K H v (dat a)
abbrev NdsV (K : PySem.W.Frag) (H : Hp) (vs : List V) (ps : List Nd) : Prop := DpAll K H vs (datAll ps)
section
variable {K : PySem.W.Frag} {H H' : Hp}
theorem NdV.el {v : V} {n : Nat} (h : NdV K H v (.el n)) : v = .int n := by
  unfold NdV dat at h
  cases h
  rfl
theorem NdV.run {v : V} {b : Nd} {c : Nat} (h : NdV K H v (.run b c)) : ∃ a v2, v = .ref a ∧ SqT K H a [.str "run", v2, .int c] ∧ NdV K H v2 b := by
  unfold NdV dat at h
  cases h with
  | tup h1 h2 =>
    cases h2 with
    | cons k1 h2 =>
      cases h2 with
      | cons k2 h2 =>
        cases h2 with
        | cons k3 h2 =>
          cases h2
          cases k1
          cases k3
          exact ⟨_, _, rfl, h1, k2⟩
theorem NdV.blk {v : V} {ps : List Nd} (h : NdV K H v (.blk ps)) : ∃ a b vs, v = .ref a ∧ SqT K H a [.str "block", .ref b] ∧ SqT K H b vs ∧ NdsV K H vs ps := by
  unfold NdV dat at h
  cases h with
  | tup h1 h2 =>
    cases h2 with
    | cons k1 h2 =>
      cases h2 with
      | cons k2 h2 =>
        cases h2
        cases k1
        cases k2 with
        | tup k3 k4 => exact ⟨_, _, _, rfl, h1, k3, k4⟩
theorem NdV.ofEl (n : Nat) : NdV K H (.int n) (.el n) := by
  unfold NdV dat
  exact .int _
theorem NdV.ofRun {a : Addr} {v2 : V} {b : Nd} {c : Nat} (h : SqT K H a [.str "run", v2, .int c]) (k : NdV K H v2 b) : NdV K H (.ref a) (.run b c) := by
  unfold NdV dat
  exact .tup h (.cons (.str _) (.cons k (.cons (.int _) .nil)))
theorem NdV.ofBlk {a b : Addr} {vs : List V} {ps : List Nd} (h : SqT K H a [.str "block", .ref b]) (k : SqT K H b vs) (q : NdsV K H vs ps) : NdV K H (.ref a) (.blk ps) := by
  unfold NdV dat
  exact .tup h (.cons (.str _) (.cons (.tup k q) .nil))
theorem NdsV.nil : NdsV K H [] [] := by
  unfold NdsV datAll
  exact .nil
theorem NdsV.cons {v : V} {vs : List V} {a : Nd} {ps : List Nd} (h : NdV K H v a) (k : NdsV K H vs ps) : NdsV K H (v :: vs) (a :: ps) := by
  unfold NdsV datAll
  exact .cons h k
theorem NdsV.inv {vs : List V} {a : Nd} {ps : List Nd} (h : NdsV K H vs (a :: ps)) : ∃ v r, vs = v :: r ∧ NdV K H v a ∧ NdsV K H r ps := by
  unfold NdsV datAll at h
  cases h with
  | cons h1 h2 => exact ⟨_, _, rfl, h1, h2⟩
theorem NdsV.inv0 {vs : List V} (h : NdsV K H vs []) : vs = [] := by
  unfold NdsV datAll at h
  cases h
  rfl
theorem NdsV.len : ∀ {ps : List Nd} {vs : List V}, NdsV K H vs ps → vs.length = ps.length
  | [], vs, h => by rw [h.inv0]; rfl
  | a :: r, vs, h => by
    obtain ⟨v, q, rfl, _, k⟩ := h.inv
    rw [List.length_cons, List.length_cons, NdsV.len k]
theorem NdsV.get : ∀ {ps : List Nd} {vs : List V} {i : Nat} {v : V}, NdsV K H vs ps → vs[i]? = some v → ∃ a, ps[i]? = some a ∧ NdV K H v a
  | [], vs, i, v, h, e => by rw [h.inv0] at e; simp at e
  | a :: r, vs, i, v, h, e => by
    obtain ⟨u, q, rfl, k1, k⟩ := h.inv
    cases i with
    | zero =>
      simp at e
      subst e
      exact ⟨a, rfl, k1⟩
    | succ i =>
      obtain ⟨b, h1, h2⟩ := NdsV.get (i := i) k (by simpa using e)
      exact ⟨b, by simpa using h1, h2⟩
theorem NdsV.at {ps : List Nd} {vs : List V} {i : Nat} {a : Nd} (h : NdsV K H vs ps) (e : ps[i]? = some a) : ∃ v, vs[i]? = some v ∧ NdV K H v a := by
  have hi := (List.getElem?_eq_some_iff.mp e).1
  obtain ⟨v, hv⟩ := get_of (l := vs) (i := i) (by rw [h.len]; exact hi)
  obtain ⟨b, h1, h2⟩ := h.get hv
  rw [e] at h1
  cases h1
  exact ⟨v, hv, h2⟩
theorem NdsV.app : ∀ {ps qs : List Nd} {vs us : List V}, NdsV K H vs ps → NdsV K H us qs → NdsV K H (vs ++ us) (ps ++ qs)
  | [], qs, vs, us, h, k => by rw [h.inv0]; exact k
  | a :: r, qs, vs, us, h, k => by
    obtain ⟨v, q, rfl, k1, k2⟩ := h.inv
    exact NdsV.cons k1 (NdsV.app k2 k)
theorem NdsV.one {v : V} {a : Nd} (h : NdV K H v a) : NdsV K H [v] [a] := NdsV.cons h NdsV.nil
theorem NdsV.last {ps : List Nd} {vs : List V} {z : Nd} (h : NdsV K H vs (ps ++ [z])) : ∃ u, atI vs (-1) = some u ∧ NdV K H u z := by
  have hl := h.len
  rw [List.length_append] at hl
  simp at hl
  rcases List.eq_nil_or_concat vs with rfl | ⟨init, u, rfl⟩
  · simp at hl
  · rw [List.concat_eq_append] at *
    refine ⟨u, atI_last _ _, ?_⟩
    have hi : init.length = ps.length := by simpa using hl
    obtain ⟨a, h1, h2⟩ := h.get (i := init.length) (v := u) (by rw [List.getElem?_append_right (Nat.le_refl _)]; simp)
    rw [hi, List.getElem?_append_right (Nat.le_refl _)] at h1
    have : a = z := by simpa using h1.symm
    rw [← this]
    exact h2
/-- node data stand while tuples stand -/
def Tups (K : PySem.W.Frag) (H H' : Hp) : Prop := ∀ a xs, SqT K H a xs → SqT K H' a xs
theorem Tups.of (e : Same H H') : Tups K H H' := fun _ _ h => sameT e h
theorem Tups.trans {H2 : Hp} (e : Tups K H H') (k : Tups K H' H2) : Tups K H H2 := fun a xs h => k a xs (e a xs h)
theorem Tups.refl : Tups K H H := fun _ _ h => h
theorem But.tups {p : Addr} {ys : List V} (e : But p H H') (h : H p = some (.lst ys)) : Tups K H H' := fun _ _ k => e.sqt h k
theorem But.tupsP {p : Addr} {c : Nat} (e : But p H H') (h : Pot H p c) : Tups K H H' := let ⟨_, k⟩ := h.ls; e.tups k
mutual
theorem NdV.up (e : Tups K H H') : ∀ {a : Nd} {v : V}, NdV K H v a → NdV K H' v a
  | .el n, v, h => by rw [h.el]; exact .ofEl n
  | .run b c, v, h => by
    obtain ⟨a, v2, rfl, h1, h2⟩ := h.run
    exact .ofRun (e _ _ h1) (NdV.up e h2)
  | .blk ps, v, h => by
    obtain ⟨a, b, vs, rfl, h1, h2, h3⟩ := h.blk
    exact .ofBlk (e _ _ h1) (e _ _ h2) (NdsV.up e h3)
theorem NdsV.up (e : Tups K H H') : ∀ {ps : List Nd} {vs : List V}, NdsV K H vs ps → NdsV K H' vs ps
  | [], vs, h => by rw [h.inv0]; exact .nil
  | a :: r, vs, h => by
    obtain ⟨v, q, rfl, k1, k2⟩ := h.inv
    exact NdsV.cons (NdV.up e k1) (NdsV.up e k2)
end
theorem SqT.ty {a : Addr} {xs : List V} (h : SqT K H a xs) : TyX K H (.ref a) (.type "tuple") := by
  rcases h with (h | ⟨o, h⟩) | ⟨o, its, n, h1, h2, _⟩
  · exact .base (.tup h)
  · exact .fTuple h
  · exact .kTuple h1 h2
end
end Loc

set_option Elab.async false
set_option linter.all false
set_option maxRecDepth 100000
namespace Loc
open PySem PySem.Spec PyProof.Rows L2
def Smalls (B : Nat) (xs : List V) : Prop := ∀ x ∈ xs, ∃ n : Nat, x = .int n ∧ n ≤ B
theorem Smalls.nil {B : Nat} : Smalls B [] := fun x h => nomatch h
theorem Smalls.cons {B n : Nat} {x : V} {xs : List V} (e : x = .int n) (h : n ≤ B) (t : Smalls B xs) : Smalls B (x :: xs) := fun y hy => by
  rcases List.mem_cons.mp hy with rfl | hy
  · exact ⟨n, e, h⟩
  · exact t y hy
theorem Smalls.at {B : Nat} {xs : List V} {j : Nat} {x : V} (s : Smalls B xs) (h : xs[j]? = some x) : ∃ n : Nat, x = .int n ∧ n ≤ B := s x (List.mem_of_getElem? h)
/-! the two nodes of a level that are at hand -/
def tw : Nat → Nd × Nd
  | 0 => (.el 5, .el 6)
  | l + 1 => (.blk [(tw l).1, (tw l).2], .blk [(tw l).2, (tw l).1])
theorem tw_ok : ∀ l : Nat, Ok (tw l).1 l ∧ Ok (tw l).2 l ∧ (tw l).1 ≠ (tw l).2 ∧ (tw l).1.isRun = false ∧ (tw l).2.isRun = false
  | 0 => by
    refine ⟨?_, ?_, ?_, rfl, rfl⟩
    · unfold tw Ok; exact ⟨rfl, by decide⟩
    · unfold tw Ok; exact ⟨rfl, by decide⟩
    · unfold tw; intro h; injection h with h; exact absurd h (by decide)
  | l + 1 => by
    obtain ⟨h1, h2, h3, h4, h5⟩ := tw_ok l
    have b1 : (tw l).1.base = (tw l).1 := by
      cases e : (tw l).1 with
      | run b c => rw [e] at h4; cases h4
      | el n => rfl
      | blk ps => rfl
    have b2 : (tw l).2.base = (tw l).2 := by
      cases e : (tw l).2 with
      | run b c => rw [e] at h5; cases h5
      | el n => rfl
      | blk ps => rfl
    refine ⟨?_, ?_, ?_, rfl, rfl⟩
    · show Ok (.blk [(tw l).1, (tw l).2]) (l + 1)
      unfold Ok
      exact ⟨by omega, Nat.le_refl 2, (show 2 ≤ 3 from by decide), OkAll.of (fun n hn => by
        rcases List.mem_cons.mp hn with rfl | hn
        · exact h1
        · rw [List.mem_singleton.mp hn]; exact h2), ⟨by rw [b1, b2]; exact h3, trivial⟩⟩
    · show Ok (.blk [(tw l).2, (tw l).1]) (l + 1)
      unfold Ok
      exact ⟨by omega, Nat.le_refl 2, (show 2 ≤ 3 from by decide), OkAll.of (fun n hn => by
        rcases List.mem_cons.mp hn with rfl | hn
        · exact h2
        · rw [List.mem_singleton.mp hn]; exact h1), ⟨by rw [b1, b2]; exact h3.symm, trivial⟩⟩
    · show Nd.blk [(tw l).1, (tw l).2] ≠ Nd.blk [(tw l).2, (tw l).1]
      intro h
      injection h with h
      injection h with h
      exact h3 h
theorem base_of_no {n : Nd} (h : n.isRun = false) : n.base = n := by
  cases n with
  | run b c => cases h
  | el n => rfl
  | blk ps => rfl
theorem Ok.base {n : Nd} {l : Nat} (h : Ok n l) : Ok n.base l ∧ n.base.isRun = false := by
  cases n with
  | run b c =>
    unfold Ok at h
    exact ⟨h.2.2.2, h.2.2.1⟩
  | el n => exact ⟨h, rfl⟩
  | blk ps => exact ⟨h, rfl⟩
theorem unb_app : ∀ {ns : List Nd} {m : Nd}, Unb ns → (∀ x, ns.getLast? = some x → x.base ≠ m.base) → Unb (ns ++ [m])
  | [], _, _, _ => trivial
  | [a], m, _, h => ⟨h a rfl, trivial⟩
  | a :: b :: r, m, u, h => ⟨u.1, unb_app (ns := b :: r) u.2 fun x e => h x (by rw [List.getLast?_cons_cons]; exact e)⟩
/-- draws for one node of a level -/
def cost : Nat → Nat
  | 0 => 8
  | l + 1 => 4 * cost l
theorem cost_pos : ∀ l : Nat, 8 ≤ cost l
  | 0 => Nat.le_refl _
  | l + 1 => by
    have := cost_pos l
    unfold cost
    omega
theorem eqv_emptyN (ns : List Nd) : PyData.eqv (.list (datAll ns)) (.list []) = ns.isEmpty := by
  cases ns <;> simp [PyData.eqv, PyData.eqvAll, datAll]
theorem shaped_nil : SeqAt.shaped (.list []) = true := (shaped_ints []).1

def spGround (K : PySem.W.Frag) : Sp := fun vs H Q _ => ∃ v n, vs = [v] ∧ NdV K H v n ∧ ∀ v', NdV K H v' n.base → Q v' H
def spLeaf (K : PySem.W.Frag) : Sp := fun vs H Q _ => ∃ p c, vs = [.ref p] ∧ Pot H p c ∧ c < 900000 ∧ ∀ v n H', But p H H' → Pot H' p (c + 6) → NdV K H' v n → Ok n 0 → Q v H'
def spTwins (K : PySem.W.Frag) (m : Nat) : Sp := fun vs H Q _ => ∃ (z : Int) (l : Nat), vs = [.int z] ∧ z = l ∧ l < m ∧
  ∀ H' a v1 v2, Same H H' → H' a = some (.tup [v1, v2]) → NdV K H' v1 (tw l).1 → NdV K H' v2 (tw l).2 → Q (.ref a) H'
def spUnlike (K : PySem.W.Frag) (m : Nat) : Sp := fun vs H Q _ => ∃ (v : V) (n : Nd) (l : Nat), vs = [v, .int l] ∧ l < m ∧ l ≤ 20 ∧ NdV K H v n ∧ Ok n l ∧
  ∀ H' v' n', Same H H' → NdV K H' v' n' → Ok n' l → n'.base ≠ n.base → Q v' H'
def spRow (K : PySem.W.Frag) (m : Nat) : Sp := fun vs H Q _ => ∃ (p : Addr) (z : Int) (l many c : Nat), vs = [.ref p, .int z, .int many] ∧ z = l ∧ l < m ∧ l ≤ 20 ∧ many ≤ 10 ∧ Pot H p c ∧ c + 20 * cost l < 900000 ∧
  ∀ H' a vs' ns, But p H H' → H a = none → H' a = some (.lst vs') → NdsV K H' vs' ns → OkAll ns l → Unb ns → ns.length = many → Pot H' p (c + many * cost l) → Q (.ref a) H'
def spBlock (K : PySem.W.Frag) (m : Nat) : Sp := fun vs H Q _ => ∃ (p : Addr) (l c : Nat), vs = [.ref p, .int l] ∧ 1 ≤ l ∧ l < m ∧ l ≤ 20 ∧ Pot H p c ∧ c + 10 * cost l < 900000 ∧
  ∀ H' v n, But p H H' → NdV K H' v n → Ok n l → Pot H' p (c + cost l) → Q v H'
end Loc

set_option Elab.async false
set_option linter.all false
set_option maxRecDepth 100000
namespace Loc
open PySem PySem.Spec PyProof.Rows L2
/-! ### repr of nodes -/
mutual
theorem noDict_dat : ∀ a : Nd, PyData.hasDict (dat a) = false
  | .el n => by simp [dat, PyData.hasDict]
  | .run b c => by simp [dat, PyData.hasDict, PyData.hasDictAll, noDict_dat b]
  | .blk ps => by simp [dat, PyData.hasDict, PyData.hasDictAll, noDict_datAll ps]
theorem noDict_datAll : ∀ ps : List Nd, PyData.hasDictAll (datAll ps) = false
  | [] => by simp [datAll, PyData.hasDictAll]
  | a :: r => by simp [datAll, PyData.hasDictAll, noDict_dat a, noDict_datAll r]
end
theorem log60 {c : Nat} (h : c ≤ 10 ^ 60) : ((c : Int)).natAbs.log2 < 1920 := log_small (Nat.lt_of_le_of_lt h (by decide +kernel))
mutual
theorem showable_dat : ∀ (a : Nd) (l : Nat), Ok a l → PyData.showable (dat a) = true
  | .el n, l, h => by
    unfold Ok at h
    have := log60 (c := n) (Nat.le_trans h.2 (by decide +kernel))
    simpa [dat, PyData.showable] using this
  | .run b c, l, h => by
    unfold Ok at h
    have h1 := log60 h.2.1
    have h2 := showable_dat b l h.2.2.2
    simp only [dat, PyData.showable, PyData.showableAll, h2, Bool.true_and, Bool.and_true]
    exact decide_eq_true h1
  | .blk ps, l, h => by
    unfold Ok at h
    have h2 := showable_datAll ps (l - 1) h.2.2.2.1
    simp only [dat, PyData.showable, PyData.showableAll, h2, Bool.true_and, Bool.and_true]
theorem showable_datAll : ∀ (ps : List Nd) (l : Nat), OkAll ps l → PyData.showableAll (datAll ps) = true
  | [], l, _ => by simp [datAll, PyData.showableAll]
  | a :: r, l, h => by
    unfold OkAll at h
    simp [datAll, PyData.showableAll, showable_dat a l h.1, showable_datAll r l h.2]
end
theorem repr_sorts : (reprText "run").length = 5 ∧ (reprText "block").length = 7 := by
  constructor <;> decide +kernel
theorem shown_nat {c k : Nat} (hk : 0 < k) (h : c < 10 ^ k) : (PyData.shown (.int (c : Int))).length ≤ k := by
  rw [PyData.shown_int]
  refine toString_length_le (Int.natCast_nonneg _) hk ?_
  have := Int.ofNat_lt.mpr h
  have e : ((10 ^ k : Nat) : Int) = (10 : Int) ^ k := by simp
  rw [← e]
  exact this
/-- signs of a node of a level -/
def wide : Nat → Nat
  | 0 => 100
  | l + 1 => 3 * wide l + 110
mutual
theorem shown_dat : ∀ (a : Nd) (l : Nat), Ok a l → (PyData.shown (dat a)).length + (if a.isRun then 0 else 80) ≤ wide l
  | .el n, l, h => by
    unfold Ok at h
    obtain ⟨rfl, hn⟩ := h
    have := shown_nat (c := n) (k := 10) (by decide) (Nat.lt_of_le_of_lt hn (by decide))
    simp only [dat, Nd.isRun, wide]
    simp
    omega
  | .run b c, l, h => by
    unfold Ok at h
    have ih := shown_dat b l h.2.2.2
    rw [h.2.2.1] at ih
    have h1 := shown_nat (c := c) (k := 61) (by decide) (Nat.lt_of_le_of_lt h.2.1 (by decide +kernel))
    have t := tupleText_len_le [PyData.shown (.str "run"), PyData.shown (dat b), PyData.shown (.int c)]
    have e : (PyData.shown (.str "run")).length = 5 := by rw [PyData.shown_str]; exact repr_sorts.1
    simp only [List.map_cons, List.map_nil, List.sum_cons, List.sum_nil, List.length_cons, List.length_nil, e] at t
    simp only [dat, Nd.isRun, PyData.shown, PyData.shownAll, if_true, Bool.false_eq_true, if_false, Nat.add_zero] at ih t h1 ⊢
    omega
  | .blk ps, l, h => by
    unfold Ok at h
    obtain ⟨hl, h2, h3, h4, _⟩ := h
    obtain ⟨j, rfl⟩ : ∃ j, l = j + 1 := ⟨l - 1, by omega⟩
    have ih := shown_datAll ps j h4
    have t := tupleText_len_le (PyData.shownAll (datAll ps))
    rw [PyData.shownAll_length, datAll_length] at t
    have t2 := tupleText_len_le [PyData.shown (.str "block"), PyData.shown (.tuple (datAll ps))]
    have e : (PyData.shown (.str "block")).length = 7 := by rw [PyData.shown_str]; exact repr_sorts.2
    simp only [List.map_cons, List.map_nil, List.sum_cons, List.sum_nil, List.length_cons, List.length_nil, e] at t2
    have m : ps.length * wide j ≤ 3 * wide j := Nat.mul_le_mul_right _ h3
    simp only [dat, Nd.isRun, PyData.shown, PyData.shownAll, wide] at t t2 ⊢
    simp
    omega
theorem shown_datAll : ∀ (ps : List Nd) (l : Nat), OkAll ps l → ((PyData.shownAll (datAll ps)).map (·.length)).sum ≤ ps.length * wide l
  | [], l, _ => by simp [datAll, PyData.shownAll]
  | a :: r, l, h => by
    unfold OkAll at h
    have h1 := shown_dat a l h.1
    have h2 := shown_datAll r l h.2
    simp only [datAll, PyData.shownAll, List.map_cons, List.sum_cons, List.length_cons]
    rw [Nat.add_mul]
    omega
end
/-- what repr asks of a tuple of nodes -/
theorem rep_nodes {K : PySem.W.Frag} {H : Hp} {a : Addr} {us : List V} {ns : List Nd} {l : Nat} {Q : VK} (hS : SqT K H a us) (hn : NdsV K H us ns) (ok : OkAll ns l) (hl : l ≤ 20) (hz : ns.length * wide l + 2 * ns.length + 3 ≤ sizeLine)
    (q : Q (.str (PyData.shown (.tuple (datAll ns)))) H) : rRep K [.ref a] H Q := by
  have d := depth_datAll ns l ok
  refine ⟨a, .tuple (datAll ns), rfl, .tup hS hn, ?_, ?_, ?_, ?_, q⟩
  · show PyData.showableAll _ = true
    exact showable_datAll ns l ok
  · show PyData.hasDictAll _ = false
    exact noDict_datAll ns
  · simp only [PyData.depth]
    omega
  · show (tupleText _).length ≤ sizeLine
    have t := tupleText_len_le (PyData.shownAll (datAll ns))
    have s := shown_datAll ns l ok
    rw [PyData.shownAll_length, datAll_length] at t
    omega
/-! ### making runs -/
noncomputable section
open Classical
def stepG (acc : List (Nd × Nat)) (n : Nd) : List (Nd × Nat) :=
  match acc.getLast? with
  | some (m, c) => if m = n then acc.dropLast ++ [(n, c + 1)] else acc ++ [(n, 1)]
  | none => acc ++ [(n, 1)]
def grp (ns : List Nd) : List (Nd × Nat) := ns.foldl stepG []
theorem grp_app (ns : List Nd) (n : Nd) : grp (ns ++ [n]) = stepG (grp ns) n := by
  unfold grp
  rw [List.foldl_append]
  rfl
theorem stepG_last (acc : List (Nd × Nat)) (n : Nd) : ∃ i c, stepG acc n = i ++ [(n, c)] := by
  unfold stepG
  split
  · split
    · exact ⟨_, _, rfl⟩
    · exact ⟨_, _, rfl⟩
  · exact ⟨_, _, rfl⟩
theorem stepG_eq {i : List (Nd × Nat)} {n : Nd} {c : Nat} : stepG (i ++ [(n, c)]) n = i ++ [(n, c + 1)] := by
  unfold stepG
  rw [List.getLast?_append]
  simp
theorem stepG_ne {acc : List (Nd × Nat)} {n : Nd} (h : ∀ m c, acc.getLast? = some (m, c) → m ≠ n) : stepG acc n = acc ++ [(n, 1)] := by
  unfold stepG
  split
  · rename_i m c e
    rw [if_neg (h m c e)]
  · rfl
/-- the last group's node is the last node -/
theorem grp_last (ns : List Nd) (n : Nd) (c : Nat) (h : (grp ns).getLast? = some (n, c)) : ns.getLast? = some n := by
  rcases List.eq_nil_or_concat ns with rfl | ⟨init, z, rfl⟩
  · unfold grp at h
    simp at h
  · rw [List.concat_eq_append] at *
    rw [grp_app] at h
    obtain ⟨i, d, e⟩ := stepG_last (grp init) z
    rw [e, List.getLast?_append] at h
    simp at h
    rw [List.getLast?_append]
    simp [h.1]
theorem grp_rep (ns : List Nd) (a : Nd) (h : ns.getLast? ≠ some a) : ∀ k : Nat, grp (ns ++ List.replicate (k + 1) a) = grp ns ++ [(a, k + 1)]
  | 0 => by
    show grp (ns ++ [a]) = _
    rw [grp_app]
    refine stepG_ne fun m c e z => h ?_
    rw [grp_last ns m c e, z]
  | k + 1 => by
    rw [List.replicate_succ', ← List.append_assoc, grp_app, grp_rep ns a h k, stepG_eq]
def mkRun (p : Nd × Nat) : Nd := if p.2 = 1 then p.1 else .run p.1 p.2
def mkRuns (ns : List Nd) : List Nd := (grp ns).map mkRun
theorem stepG_len (acc : List (Nd × Nat)) (n : Nd) : (stepG acc n).length ≤ acc.length + 1 := by
  unfold stepG
  split
  · split
    · rename_i e _
      have := List.length_pos_iff.mpr (show acc ≠ [] from fun z => by rw [z] at e; cases e)
      simp
      try omega
    · simp
  · simp
theorem grp_foot (ns : List Nd) : ∀ p ∈ grp ns, p.1 ∈ ns ∧ 1 ≤ p.2 ∧ p.2 ≤ ns.length := by
  rcases h : ns.reverse with _ | ⟨z, r⟩
  all_goals skip
  · have : ns = [] := by simpa using h
    subst this
    unfold grp
    intro p hp
    exact nomatch hp
  · have e : ns = r.reverse ++ [z] := by
      have := congrArg List.reverse h
      simpa using this
    rw [e]
    clear h e
    generalize r.reverse = xs
    clear r
    suffices hh : ∀ (k : Nat) (xs : List Nd), xs.length = k → ∀ p ∈ grp xs, p.1 ∈ xs ∧ 1 ≤ p.2 ∧ p.2 ≤ xs.length from hh _ _ rfl
    intro k
    induction k with
    | zero =>
      intro xs hx p hp
      rw [List.eq_nil_of_length_eq_zero hx] at hp
      unfold grp at hp
      exact nomatch hp
    | succ k ih =>
      intro xs hx p hp
      rcases List.eq_nil_or_concat xs with rfl | ⟨i, y, rfl⟩
      · simp at hx
      · rw [List.concat_eq_append] at *
        have hi : i.length = k := by simpa using hx
        have g := ih i hi
        rw [grp_app] at hp
        unfold stepG at hp
        split at hp
        · rename_i m c e
          have gm := g (m, c) (List.mem_of_getLast? e)
          split at hp
          · rcases List.mem_append.mp hp with hp | hp
            · have := g p ((List.dropLast_sublist _).subset hp)
              simp
              exact ⟨.inl this.1, this.2.1, by omega⟩
            · rw [List.mem_singleton.mp hp]
              simp
              simp at gm
              omega
          · rcases List.mem_append.mp hp with hp | hp
            · have := g p hp
              simp
              exact ⟨.inl this.1, this.2.1, by omega⟩
            · rw [List.mem_singleton.mp hp]
              simp
        · rcases List.mem_append.mp hp with hp | hp
          · have := g p hp
            simp
            exact ⟨.inl this.1, this.2.1, by omega⟩
          · rw [List.mem_singleton.mp hp]
            simp
theorem grp_len (ns : List Nd) : (grp ns).length ≤ ns.length := by
  suffices hh : ∀ (xs : List Nd) (acc : List (Nd × Nat)), (xs.foldl stepG acc).length ≤ acc.length + xs.length from by
    have := hh ns []
    show (ns.foldl stepG []).length ≤ _
    simpa using this
  intro xs
  induction xs with
  | nil => intro acc; simp
  | cons x r ih =>
    intro acc
    have h1 := ih (stepG acc x)
    have h2 := stepG_len acc x
    rw [List.foldl_cons, List.length_cons]
    omega
theorem mkRuns_ok {ns : List Nd} {l : Nat} (h : OkAll ns l) (nr : ∀ n ∈ ns, n.isRun = false) (hz : ns.length ≤ 10 ^ 60) : OkAll (mkRuns ns) l := OkAll.of fun n hn => by
  obtain ⟨p, hp, rfl⟩ := List.mem_map.mp hn
  obtain ⟨h1, h2, h3⟩ := grp_foot ns p hp
  unfold mkRun
  split
  · exact h.mem _ h1
  · unfold Ok
    exact ⟨by omega, Nat.le_trans h3 hz, nr _ h1, h.mem _ h1⟩
end
end Loc
namespace Loc
open PySem PySem.Spec PyProof.Rows L2
/-! pairs of a node and a count -/
def pdat (p : Nd × Nat) : PyData := .tuple [dat p.1, .int (p.2 : Int)]
abbrev PrsV (K : PySem.W.Frag) (H : Hp) (vs : List V) (ps : List (Nd × Nat)) : Prop := DpAll K H vs (ps.map pdat)
section
variable {K : PySem.W.Frag} {H H' : Hp}
theorem PrsV.one {a : Addr} {v : V} {p : Nd × Nat} (h : SqT K H a [v, .int (p.2 : Int)]) (k : NdV K H v p.1) : PrsV K H [.ref a] [p] := .cons (.tup h (.cons k (.cons (.int _) .nil))) .nil
theorem PrsV.inv {v : V} {p : Nd × Nat} (h : Dp K H v (pdat p)) : ∃ a u, v = .ref a ∧ SqT K H a [u, .int (p.2 : Int)] ∧ NdV K H u p.1 := by
  unfold pdat at h
  cases h with
  | tup h1 h2 =>
    cases h2 with
    | cons k1 h2 =>
      cases h2 with
      | cons k2 h2 =>
        cases h2
        cases k2
        exact ⟨_, _, rfl, h1, k1⟩
theorem DpAll.len : ∀ {ds : List PyData} {vs : List V}, DpAll K H vs ds → vs.length = ds.length
  | _, _, .nil => rfl
  | _, _, .cons _ t => by rw [List.length_cons, List.length_cons, DpAll.len t]
theorem DpAll.app : ∀ {ds es : List PyData} {vs us : List V}, DpAll K H vs ds → DpAll K H us es → DpAll K H (vs ++ us) (ds ++ es)
  | _, _, _, _, .nil, k => k
  | _, _, _, _, .cons h t, k => .cons h (DpAll.app t k)
theorem DpAll.split : ∀ {ds es : List PyData} {vs : List V}, DpAll K H vs (ds ++ es) → ∃ us ws, vs = us ++ ws ∧ DpAll K H us ds ∧ DpAll K H ws es
  | [], es, vs, h => ⟨[], vs, rfl, .nil, h⟩
  | d :: ds, es, _, .cons h t => by
    obtain ⟨us, ws, rfl, h1, h2⟩ := DpAll.split (ds := ds) (es := es) t
    exact ⟨_ :: us, ws, rfl, .cons h h1, h2⟩
theorem DpAll.get : ∀ {ds : List PyData} {vs : List V} {i : Nat} {v : V}, DpAll K H vs ds → vs[i]? = some v → ∃ d, ds[i]? = some d ∧ Dp K H v d
  | _, _, _, _, .nil, e => by simp at e
  | _, _, 0, _, .cons h t, e => by
    simp at e
    subst e
    exact ⟨_, rfl, h⟩
  | _, _, i + 1, _, .cons h t, e => by
    obtain ⟨d, h1, h2⟩ := DpAll.get (i := i) t (by simpa using e)
    exact ⟨d, by simpa using h1, h2⟩
theorem Pr.up (e : Tups K H H') {v : V} {p : Nd × Nat} (h : Dp K H v (pdat p)) : Dp K H' v (pdat p) := by
  obtain ⟨a, u, rfl, h1, h2⟩ := PrsV.inv h
  exact .tup (e _ _ h1) (.cons (h2.up e) (.cons (.int _) .nil))
theorem PrsV.up (e : Tups K H H') : ∀ {ps : List (Nd × Nat)} {vs : List V}, PrsV K H vs ps → PrsV K H' vs ps
  | [], _, h => by
    cases h
    exact .nil
  | p :: r, _, h => by
    cases h with
    | cons h1 h2 => exact .cons (Pr.up e h1) (PrsV.up e h2)
theorem canLay_prs (l : Nat) : ∀ ps : List (Nd × Nat), (∀ p ∈ ps, Ok p.1 l) → PyData.canLayAll0 (ps.map pdat) = true ∧ PyData.depthAll (ps.map pdat) ≤ 3 * l + 2
  | [], _ => by simp [PyData.canLayAll0, PyData.depthAll]
  | p :: r, h => by
    have h1 := canLay_dat p.1
    have h2 := depth_le (h p List.mem_cons_self)
    have h3 := canLay_prs l r fun q hq => h q (List.mem_cons_of_mem _ hq)
    constructor
    · simp only [List.map_cons, PyData.canLayAll0, pdat, PyData.canLay0, h1, Bool.true_and]
      exact h3.1
    · have := h3.2
      simp only [List.map_cons, PyData.depthAll, pdat, PyData.depth]
      omega
theorem shaped_prs {l : Nat} {ps : List (Nd × Nat)} (h : ∀ p ∈ ps, Ok p.1 l) (hl : l ≤ 20) : SeqAt.shaped (.list (ps.map pdat)) = true := by
  obtain ⟨h1, h2⟩ := canLay_prs l ps h
  unfold SeqAt.shaped
  rw [Bool.and_eq_true]
  exact ⟨by simpa [PyData.canLay0] using h1, decide_eq_true (by simp only [PyData.depth]; omega)⟩
theorem eqv_emptyP (ps : List (Nd × Nat)) : PyData.eqv (.list (ps.map pdat)) (.list []) = ps.isEmpty := by
  cases ps <;> simp [PyData.eqv, PyData.eqvAll]
theorem ixN_last {n : Nat} : ixN (n + 1) (-1) = some n := by
  unfold ixN
  rw [if_neg (by omega), if_pos (by omega)]
  congr 1
  omega
end
theorem cut_to (xs : List V) (k : Nat) : cutV xs none (some (k : Int)) = xs.take k := by
  unfold cutV
  rw [HT.sIx_none, HT.sIx_nat, List.drop_zero, Nat.sub_zero]
  rcases Nat.le_total k xs.length with h | h
  · rw [Nat.min_eq_left h]
  · rw [Nat.min_eq_right h, List.take_length, List.take_of_length_le h]
theorem rep_one {α : Type} (x : α) : ∀ k : Nat, (List.replicate k [x]).flatten = List.replicate k x
  | 0 => rfl
  | k + 1 => by rw [List.replicate_succ, List.flatten_cons, rep_one x k]; rfl
theorem NdsV.rep {K : PySem.W.Frag} {H : Hp} {v : V} {a : Nd} (h : NdV K H v a) : ∀ k : Nat, NdsV K H (List.replicate k v) (List.replicate k a)
  | 0 => .nil
  | k + 1 => by
    rw [List.replicate_succ, List.replicate_succ]
    exact .cons h (NdsV.rep h k)
theorem NdsV.take {K : PySem.W.Frag} {H : Hp} : ∀ {ps : List Nd} {vs : List V} (k : Nat), NdsV K H vs ps → NdsV K H (vs.take k) (ps.take k)
  | [], vs, k, h => by rw [h.inv0]; simp; exact .nil
  | a :: r, vs, 0, h => by simp; exact .nil
  | a :: r, vs, k + 1, h => by
    obtain ⟨v, q, rfl, k1, k2⟩ := h.inv
    rw [List.take_succ_cons, List.take_succ_cons]
    exact .cons k1 (NdsV.take k k2)
end Loc
namespace Loc
open PySem PySem.Spec PyProof.Rows L2
section
variable {K : PySem.W.Frag} {H : Hp}
theorem PrsV.app {ps qs : List (Nd × Nat)} {vs us : List V} (h : PrsV K H vs ps) (k : PrsV K H us qs) : PrsV K H (vs ++ us) (ps ++ qs) := by
  show DpAll K H _ _
  rw [List.map_append]
  exact DpAll.app h k
theorem PrsV.split {ps : List (Nd × Nat)} {p : Nd × Nat} {vs : List V} (h : PrsV K H vs (ps ++ [p])) : ∃ us a u, vs = us ++ [.ref a] ∧ PrsV K H us ps ∧ SqT K H a [u, .int (p.2 : Int)] ∧ NdV K H u p.1 := by
  have h : DpAll K H vs ((ps ++ [p]).map pdat) := h
  rw [List.map_append] at h
  obtain ⟨us, ws, rfl, h1, h2⟩ := DpAll.split h
  cases h2 with
  | cons k1 k2 =>
    cases k2
    obtain ⟨a, u, rfl, t1, t2⟩ := PrsV.inv k1
    exact ⟨us, a, u, rfl, h1, t1, t2⟩
theorem PrsV.len {ps : List (Nd × Nat)} {vs : List V} (h : PrsV K H vs ps) : vs.length = ps.length := by rw [DpAll.len h, List.length_map]
theorem PrsV.get {ps : List (Nd × Nat)} {vs : List V} {i : Nat} {v : V} (h : PrsV K H vs ps) (e : vs[i]? = some v) : ∃ p a u, ps[i]? = some p ∧ v = .ref a ∧ SqT K H a [u, .int (p.2 : Int)] ∧ NdV K H u p.1 := by
  obtain ⟨d, h1, h2⟩ := DpAll.get h e
  rw [List.getElem?_map] at h1
  obtain ⟨p, hp, rfl⟩ := Option.map_eq_some_iff.mp h1
  obtain ⟨a, u, rfl, t1, t2⟩ := PrsV.inv h2
  exact ⟨p, a, u, hp, rfl, t1, t2⟩
end
end Loc

set_option Elab.async false
set_option linter.all false
set_option maxRecDepth 100000
namespace Loc
open PySem PySem.Spec PyProof.Rows L2
/-! ### texts and sizes -/
def numT (n : Nat) : Str := Str.ofString (toString (n : Int))
mutual
def txt : Nd → Str
  | .el n => numT n
  | .run b c => txt b ++ Str.ofString "^" ++ numT c
  | .blk ps => Str.ofString "(" ++ Txt.join " " (txts ps) ++ Str.ofString ")"
def txts : List Nd → List Str
  | [] => []
  | a :: r => txt a :: txts r
end
mutual
def sz : Nd → Nat
  | .el _ => 1
  | .run b c => sz b * c
  | .blk ps => szs ps
def szs : List Nd → Nat
  | [] => 0
  | a :: r => sz a + szs r
end
mutual
def ht : Nd → Nat
  | .el _ => 0
  | .run b _ => ht b + 1
  | .blk ps => hts ps + 1
def hts : List Nd → Nat
  | [] => 0
  | a :: r => max (ht a) (hts r)
end
theorem hts_mem : ∀ {ps : List Nd} {n : Nd}, n ∈ ps → ht n ≤ hts ps
  | a :: r, n, h => by
    unfold hts
    rcases List.mem_cons.mp h with rfl | h
    · omega
    · have := hts_mem h
      omega
theorem txts_map : ∀ ps : List Nd, txts ps = ps.map txt
  | [] => by unfold txts; rfl
  | a :: r => by unfold txts; rw [txts_map r]; rfl
theorem szs_sum : ∀ ps : List Nd, ((ps.map fun n => ((sz n : Nat) : Int)).sum) = (szs ps : Nat)
  | [] => by unfold szs; rfl
  | a :: r => by
    unfold szs
    rw [List.map_cons, List.sum_cons, szs_sum r]
    omega
mutual
theorem ht_le : ∀ (a : Nd) (l : Nat), Ok a l → ht a ≤ 2 * l + (if a.isRun then 1 else 0)
  | .el n, l, h => by simp [ht]
  | .run b c, l, h => by
    unfold Ok at h
    have ih := ht_le b l h.2.2.2
    rw [h.2.2.1] at ih
    simp only [ht, Nd.isRun, if_true, Bool.false_eq_true, if_false] at ih ⊢
    omega
  | .blk ps, l, h => by
    unfold Ok at h
    have ih := hts_le ps (l - 1) h.2.2.2.1
    simp only [ht, Nd.isRun, Bool.false_eq_true, if_false]
    omega
theorem hts_le : ∀ (ps : List Nd) (l : Nat), OkAll ps l → hts ps ≤ 2 * l + 1
  | [], l, _ => by simp [hts]
  | a :: r, l, h => by
    unfold OkAll at h
    have h1 := ht_le a l h.1
    have h2 := hts_le r l h.2
    simp only [hts]
    split at h1 <;> omega
end
mutual
theorem sz_lt : ∀ (a : Nd) (l : Nat), Ok a l → sz a < 2 ^ (404 * l + (if a.isRun then 202 else 2))
  | .el n, l, h => by
    unfold sz
    exact Nat.one_lt_two_pow (by split <;> omega)
  | .run b c, l, h => by
    unfold Ok at h
    have ih := sz_lt b l h.2.2.2
    rw [h.2.2.1] at ih
    simp only [Nd.isRun, if_true, Bool.false_eq_true, if_false, sz] at ih ⊢
    have hc : c < 2 ^ 200 := Nat.lt_of_le_of_lt h.2.1 (by decide +kernel)
    have := Nat.mul_lt_mul'' ih hc
    rw [← Nat.pow_add] at this
    exact this
  | .blk ps, l, h => by
    unfold Ok at h
    have ih := szs_lt ps (l - 1) h.2.2.2.1
    simp only [Nd.isRun, Bool.false_eq_true, if_false, sz]
    have hp := Nat.two_pow_pos (404 * (l - 1) + 202)
    have m : ps.length * 2 ^ (404 * (l - 1) + 202) ≤ 3 * 2 ^ (404 * (l - 1) + 202) := Nat.mul_le_mul_right _ h.2.2.1
    have e : 2 ^ (404 * (l - 1) + 202) * 2 ^ 2 ≤ 2 ^ (404 * l + 2) := by
      rw [← Nat.pow_add]
      exact Nat.pow_le_pow_right (by decide) (by omega)
    omega
theorem szs_lt : ∀ (ps : List Nd) (l : Nat), OkAll ps l → szs ps ≤ ps.length * 2 ^ (404 * l + 202)
  | [], l, _ => by simp [szs]
  | a :: r, l, h => by
    unfold OkAll at h
    have h1 := sz_lt a l h.1
    have h2 := szs_lt r l h.2
    have h3 : 2 ^ (404 * l + (if a.isRun then 202 else 2)) ≤ 2 ^ (404 * l + 202) := Nat.pow_le_pow_right (by decide) (by split <;> omega)
    simp only [szs, List.length_cons]
    rw [Nat.add_mul]
    omega
end
theorem sz_small {a : Nd} {l : Nat} (h : Ok a l) : sz a < 2 ^ (404 * l + 202) := Nat.lt_of_lt_of_le (sz_lt a l h) (Nat.pow_le_pow_right (by decide) (by split <;> omega))
theorem numT_len {n k : Nat} (hk : 0 < k) (h : n < 10 ^ k) : (numT n).length ≤ k := by
  have := shown_nat hk h
  rw [PyData.shown_int] at this
  exact this
mutual
theorem txt_len : ∀ (a : Nd) (l : Nat), Ok a l → (txt a).length + (if a.isRun then 0 else 80) ≤ wide l
  | .el n, l, h => by
    unfold Ok at h
    obtain ⟨rfl, hn⟩ := h
    have := numT_len (n := n) (k := 10) (by decide) (Nat.lt_of_le_of_lt hn (by decide))
    simp only [txt, Nd.isRun, wide, Bool.false_eq_true, if_false]
    omega
  | .run b c, l, h => by
    unfold Ok at h
    have ih := txt_len b l h.2.2.2
    rw [h.2.2.1] at ih
    have h1 := numT_len (n := c) (k := 61) (by decide) (Nat.lt_of_le_of_lt h.2.1 (by decide +kernel))
    simp only [txt, Nd.isRun, if_true, Bool.false_eq_true, if_false, strLen_append] at ih ⊢
    have e : (Str.ofString "^").length = 1 := by decide +kernel
    omega
  | .blk ps, l, h => by
    unfold Ok at h
    obtain ⟨hl, h2, h3, h4, _⟩ := h
    obtain ⟨j, rfl⟩ : ∃ j, l = j + 1 := ⟨l - 1, by omega⟩
    have ih := txts_len ps j h4
    have m : ps.length * wide j ≤ 3 * wide j := Nat.mul_le_mul_right _ h3
    have g := size_glued " " (txts ps)
    have e1 : (Str.ofString "(").length = 1 := by decide +kernel
    have e2 : (Str.ofString ")").length = 1 := by decide +kernel
    have e3 : (Str.ofString " ").length = 1 := by decide +kernel
    have e4 : (txts ps).length = ps.length := by rw [txts_map, List.length_map]
    rw [e3, e4] at g
    simp only [txt, Nd.isRun, Bool.false_eq_true, if_false, strLen_append, wide]
    show (Str.ofString "(").length + (Builtin.Str.glued " " (txts ps)).length + (Str.ofString ")").length + 80 ≤ _
    omega
theorem txts_len : ∀ (ps : List Nd) (l : Nat), OkAll ps l → ((txts ps).map (·.length)).sum ≤ ps.length * wide l
  | [], l, _ => by simp [txts]
  | a :: r, l, h => by
    unfold OkAll at h
    have h1 := txt_len a l h.1
    have h2 := txts_len r l h.2
    simp only [txts, List.map_cons, List.sum_cons, List.length_cons]
    rw [Nat.add_mul]
    omega
end
def C8 (s : Str) : Prop := ∀ c ∈ s.cps.toList, c < 16 ^ 8
theorem C8.of (s : String) : C8 (Str.ofString s) := fun c hc => by
  rw [signs_ofString] at hc
  obtain ⟨d, _, rfl⟩ := List.mem_map.mp hc
  exact d.val.toNat_lt
theorem C8.app {a b : Str} (h : C8 a) (k : C8 b) : C8 (a ++ b) := fun c hc => by
  have e : (a ++ b).cps.toList = a.cps.toList ++ b.cps.toList := by
    show (a.cps ++ b.cps).toList = _
    simp
  rw [e] at hc
  rcases List.mem_append.mp hc with hc | hc
  · exact h c hc
  · exact k c hc
theorem C8.join {sep : Str} (hs : C8 sep) : ∀ {l : List Str}, (∀ y ∈ l, C8 y) → C8 (Str.join sep l)
  | [], _ => fun c hc => by
    have : (Str.join sep []).cps.toList = [] := rfl
    rw [this] at hc
    cases hc
  | [x], h => h x List.mem_cons_self
  | x :: y :: r, h => ((h x List.mem_cons_self).app hs).app (C8.join hs fun z hz => h z (List.mem_cons_of_mem _ hz))
mutual
theorem txt_c8 : ∀ a : Nd, C8 (txt a)
  | .el n => by unfold txt; exact .of _
  | .run b c => by unfold txt; exact ((txt_c8 b).app (.of _)).app (.of _)
  | .blk ps => by
    unfold txt
    refine ((C8.of "(").app ?_).app (.of _)
    show C8 (Builtin.Str.glued " " (txts ps))
    rw [StrLaws.glued_eq_join]
    exact C8.join (.of _) (txts_c8 ps)
theorem txts_c8 : ∀ ps : List Nd, ∀ y ∈ txts ps, C8 y
  | [], y, h => by unfold txts at h; cases h
  | a :: r, y, h => by
    unfold txts at h
    rcases List.mem_cons.mp h with rfl | h
    · exact txt_c8 a
    · exact txts_c8 r y h
end
/-! repr of a node or a number -/
def rRepA (K : PySem.W.Frag) : List V → Hp → VK → Prop := fun xs H Q => rRep K xs H Q ∨ ∃ i : Int, xs = [.int i] ∧ i.natAbs.log2 < 1920 ∧ Q (.str (Str.ofString (toString i))) H
theorem call_repA {X : Cx} {k : Nat} (hr : Room k X.A) (hg : X.A.guards = some []) : CallR X (.builtin "repr") (rRepA X.K) := by
  intro pins s σ H xs us Q I r h
  rcases h with h | ⟨i, rfl, hz, q⟩
  · exact call_rep hr hg pins s σ H xs us Q I r h
  · obtain ⟨u, rfl, t, rfl⟩ := vals1 r
    exact PySem.P.repr_of_int hz ⟨.str _, H, I.tok _, ⟨_, rfl⟩, q⟩
theorem rep_node {K : PySem.W.Frag} {H : Hp} {v : V} {n : Nd} {l : Nat} {Q : VK} (hn : NdV K H v n) (ok : Ok n l) (hl : l ≤ 20) (hz : wide l ≤ sizeLine) (q : Q (.str (PyData.shown (dat n))) H) : rRepA K [v] H Q := by
  have d := depth_le ok
  have w := shown_dat n l ok
  have sh := showable_dat n l ok
  cases n with
  | el m =>
    have ev := hn.el
    subst ev
    refine .inr ⟨m, rfl, ?_, ?_⟩
    · simpa [dat, PyData.showable] using sh
    · have e : (dat (.el m)).shown = Str.ofString (toString (m : Int)) := by unfold dat; exact PyData.shown_int _
      rw [← e]
      exact q
  | run b c =>
    obtain ⟨a, v2, rfl, _, _⟩ := hn.run
    exact .inl ⟨a, _, rfl, hn, sh, noDict_dat _, by omega, by split at w <;> omega, q⟩
  | blk ps =>
    obtain ⟨a, b, vs, rfl, _, _, _⟩ := hn.blk
    exact .inl ⟨a, _, rfl, hn, sh, noDict_dat _, by omega, by split at w <;> omega, q⟩
end Loc

/-! the lowest digit in which two naturals differ -/
namespace M07
theorem or_two (a b : Nat) : (a ||| b) = 2 * ((a / 2) ||| (b / 2)) + (if a % 2 = 0 ∧ b % 2 = 0 then 0 else 1) := by
  have h1 : (a ||| b) / 2 = (a / 2) ||| (b / 2) := Nat.or_div_two
  have h2 : (a ||| b) % 2 = if a % 2 = 0 ∧ b % 2 = 0 then 0 else 1 := by
    have h3 := @Nat.or_mod_two_eq_one a b
    split <;> omega
  rw [← h1, ← h2]
  omega
theorem and_two (a b : Nat) : (a &&& b) = 2 * ((a / 2) &&& (b / 2)) + (if a % 2 = 1 ∧ b % 2 = 1 then 1 else 0) := by
  have h1 : (a &&& b) / 2 = (a / 2) &&& (b / 2) := Nat.and_div_two
  have h2 : (a &&& b) % 2 = if a % 2 = 1 ∧ b % 2 = 1 then 1 else 0 := by
    have h3 := @Nat.and_mod_two_eq_one a b
    split <;> omega
  rw [← h1, ← h2]
  omega
/-- the digits of one and not of the other -/
def dif (a b : Nat) : Nat := (a ||| b) - (a &&& b)
theorem and_le_or : ∀ (n a b : Nat), a + b ≤ n → (a &&& b) ≤ (a ||| b)
  | 0, a, b, h => by
    have e1 : a = 0 := by omega
    have e2 : b = 0 := by omega
    subst e1; subst e2; decide
  | n + 1, a, b, h => by
    by_cases z : a + b = 0
    · have e1 : a = 0 := by omega
      have e2 : b = 0 := by omega
      subst e1; subst e2; decide
    · have ih := and_le_or n (a / 2) (b / 2) (by omega)
      rw [or_two a b, and_two a b]
      split <;> split <;> omega
theorem dif_two (a b : Nat) : dif a b = 2 * dif (a / 2) (b / 2) + (if a % 2 = b % 2 then 0 else 1) := by
  unfold dif
  have k := and_le_or _ (a / 2) (b / 2) (Nat.le_refl _)
  rw [or_two a b, and_two a b]
  split <;> split <;> split <;> omega
/-- the lowest digit in which they differ, looked for within the fuel -/
def low : Nat → Nat → Nat → Nat
  | 0, _, _ => 0
  | n + 1, a, b => if a % 2 = b % 2 then low n (a / 2) (b / 2) + 1 else 0
theorem low_spec : ∀ (n a b : Nat), a + b < n → a ≠ b →
    (∃ q, dif a b = 2 ^ low n a b * (2 * q + 1)) ∧ (a / 2 ^ low n a b) % 2 ≠ (b / 2 ^ low n a b) % 2 ∧ ∀ i, i < low n a b → (a / 2 ^ i) % 2 = (b / 2 ^ i) % 2
  | 0, a, b, h, _ => by omega
  | n + 1, a, b, h, hne => by
    unfold low
    have hd := dif_two a b
    by_cases e : a % 2 = b % 2
    · rw [if_pos e]
      rw [if_pos e] at hd
      obtain ⟨⟨q, h1⟩, h2, h3⟩ := low_spec n (a / 2) (b / 2) (by omega) (by omega)
      refine ⟨⟨q, ?_⟩, ?_, fun i hi => ?_⟩
      · rw [hd, h1, Nat.pow_succ]
        simp [Nat.mul_assoc, Nat.mul_comm, Nat.mul_left_comm]
      · rw [Nat.pow_succ, Nat.mul_comm, ← Nat.div_div_eq_div_mul, ← Nat.div_div_eq_div_mul]
        exact h2
      · cases i with
        | zero => simpa using e
        | succ i =>
          rw [Nat.pow_succ, Nat.mul_comm, ← Nat.div_div_eq_div_mul, ← Nat.div_div_eq_div_mul]
          exact h3 i (by omega)
    · rw [if_neg e]
      rw [if_neg e] at hd
      refine ⟨⟨dif (a / 2) (b / 2), ?_⟩, ?_, fun i hi => ?_⟩
      · rw [hd]; simp
      · simpa using e
      · omega
/-- u & (u - 1), u = 2 ^ t * odd -/
theorem and_pred : ∀ (t q : Nat), (2 ^ t * (2 * q + 1)) &&& (2 ^ t * (2 * q + 1) - 1) = 2 ^ t * (2 * q)
  | 0, q => by
    simp only [Nat.pow_zero, Nat.one_mul, Nat.add_sub_cancel]
    rw [and_two]
    rw [show (2 * q + 1) / 2 = q by omega, show 2 * q / 2 = q by omega, Nat.and_self]
    rw [if_neg (by omega)]
    omega
  | t + 1, q => by
    have ih := and_pred t q
    have hp : 0 < 2 ^ t * (2 * q + 1) := Nat.mul_pos (Nat.two_pow_pos t) (by omega)
    rw [show 2 ^ (t + 1) * (2 * q + 1) = 2 * (2 ^ t * (2 * q + 1)) by rw [Nat.pow_succ]; simp [Nat.mul_assoc, Nat.mul_comm, Nat.mul_left_comm]]
    rw [show 2 ^ (t + 1) * (2 * q) = 2 * (2 ^ t * (2 * q)) by rw [Nat.pow_succ]; simp [Nat.mul_assoc, Nat.mul_comm, Nat.mul_left_comm]]
    generalize 2 ^ t * (2 * q + 1) = u at ih hp ⊢
    rw [and_two, if_neg (by omega)]
    rw [show 2 * u / 2 = u by omega, show (2 * u - 1) / 2 = u - 1 by omega, ih]
    omega
/-- the mark of a later place -/
def mk (a b : Nat) : Nat := 2 * low (a + b + 1) a b + (b / 2 ^ low (a + b + 1) a b) % 2
/-- a later round -/
def marks : Nat → List Nat → List Nat
  | _, [] => []
  | a, b :: r => mk a b :: marks b r
def round : List Nat → List Nat
  | [] => []
  | a :: r => a % 2 :: marks a r
theorem marks_length : ∀ (a : Nat) (l : List Nat), (marks a l).length = l.length
  | _, [] => rfl
  | a, b :: r => by show (marks b r).length + 1 = r.length + 1; rw [marks_length b r]
theorem round_length (l : List Nat) : (round l).length = l.length := by
  cases l with
  | nil => rfl
  | cons a r => show (marks a r).length + 1 = r.length + 1; rw [marks_length]
theorem marks_get : ∀ (a : Nat) (l : List Nat) (i x y : Nat), (a :: l)[i]? = some x → (a :: l)[i + 1]? = some y → (marks a l)[i]? = some (mk x y)
  | a, [], i, x, y, _, h => by simp at h
  | a, b :: r, 0, x, y, h1, h2 => by
    simp at h1 h2
    subst h1; subst h2; rfl
  | a, b :: r, i + 1, x, y, h1, h2 => by
    show (marks b r)[i]? = _
    exact marks_get b r i x y h1 h2
theorem round_get (l : List Nat) (i x y : Nat) (h1 : l[i]? = some x) (h2 : l[i + 1]? = some y) : (round l)[i + 1]? = some (mk x y) := by
  cases l with
  | nil => simp at h1
  | cons a r => exact marks_get a r i x y h1 h2
/-- neighbours unlike -/
def Unl : List Nat → Prop
  | a :: b :: r => a ≠ b ∧ Unl (b :: r)
  | _ => True
theorem Unl.get : ∀ {l : List Nat} {i x y : Nat}, Unl l → l[i]? = some x → l[i + 1]? = some y → x ≠ y
  | [], _, _, _, _, h, _ => by simp at h
  | [_], i, _, _, _, _, h => by simp at h
  | a :: b :: r, 0, x, y, u, h1, h2 => by
    simp at h1 h2
    subst h1; subst h2; exact u.1
  | a :: b :: r, i + 1, x, y, u, h1, h2 => Unl.get (l := b :: r) (i := i) u.2 (by simpa using h1) (by simpa using h2)
theorem mk_low {a b : Nat} (h : a ≠ b) : mk a b / 2 = low (a + b + 1) a b ∧ mk a b % 2 = (b / 2 ^ low (a + b + 1) a b) % 2 := by
  unfold mk
  omega
theorem mk_ne {a b c : Nat} (h1 : a ≠ b) (h2 : b ≠ c) : mk a b ≠ mk b c := fun e => by
  obtain ⟨p1, p2⟩ := mk_low h1
  obtain ⟨q1, q2⟩ := mk_low h2
  rw [e] at p1 p2
  have el : low (a + b + 1) a b = low (b + c + 1) b c := p1.symm.trans q1
  obtain ⟨_, k, _⟩ := low_spec (b + c + 1) b c (by omega) h2
  rw [← el] at k q2
  exact k (p2.symm.trans q2)
theorem mk_ne0 {a b : Nat} (h : a ≠ b) : a % 2 ≠ mk a b := fun e => by
  obtain ⟨p1, p2⟩ := mk_low h
  obtain ⟨_, k, _⟩ := low_spec (a + b + 1) a b (by omega) h
  have e0 : low (a + b + 1) a b = 0 := by omega
  rw [e0] at k p2
  simp at k p2
  omega
theorem marks_unl : ∀ (a : Nat) (l : List Nat), Unl (a :: l) → Unl (marks a l)
  | _, [], _ => trivial
  | _, [_], _ => trivial
  | a, b :: c :: r, u => ⟨mk_ne u.1 u.2.1, marks_unl b (c :: r) u.2⟩
theorem round_unl (l : List Nat) (u : Unl l) : Unl (round l) := by
  match l, u with
  | [], _ => trivial
  | [_], _ => trivial
  | a :: b :: r, u => exact ⟨mk_ne0 u.1, marks_unl a (b :: r) u⟩
end M07

set_option Elab.async false
set_option linter.all false
namespace M07
open PySem PyProof.Rows
theorem xor_nn (x y : Nat) : Builtin.bitXor (x : Int) (y : Int) = (dif x y : Nat) := by
  show Builtin.bitOr (x : Int) (y : Int) - Builtin.bitAnd (x : Int) (y : Int) = _
  have k := and_le_or _ x y (Nat.le_refl _)
  rw [L2.bitOr_nn (Int.natCast_nonneg _) (Int.natCast_nonneg _), bitAnd_pp (Int.natCast_nonneg _) (Int.natCast_nonneg _)]
  simp only [Int.toNat_natCast]
  unfold dif
  omega
theorem and_neg (u : Nat) (h : 0 < u) : Builtin.bitAnd (u : Int) (-(u : Int)) = (u : Int) - ((u &&& (u - 1) : Nat) : Int) := by
  have h1 : ¬ 0 ≤ -(u : Int) := by omega
  have h2 : (0 : Int) ≤ u := by omega
  have e : (Builtin.bitNot (-(u : Int))).toNat = u - 1 := by
    show (- -(u : Int) - 1).toNat = u - 1
    omega
  unfold Builtin.bitAnd
  rw [decide_eq_true h2, decide_eq_false h1]
  show (u : Int) - (((u : Int).toNat &&& (Builtin.bitNot (-(u : Int))).toNat : Nat) : Int) = _
  rw [e, Int.toNat_natCast]
theorem low_word {x y : Nat} (h : x ≠ y) : ((Builtin.Int.intBits (Builtin.bitAnd (Builtin.bitXor (x : Int) (y : Int)) (-(Builtin.bitXor (x : Int) (y : Int)))) : Nat) : Int) - 1 = (low (x + y + 1) x y : Nat) := by
  obtain ⟨⟨q, e⟩, _, _⟩ := low_spec (x + y + 1) x y (by omega) h
  generalize low (x + y + 1) x y = t at e ⊢
  have hp : 0 < 2 ^ t := Nat.two_pow_pos t
  have hu : 0 < dif x y := by
    rw [e]
    exact Nat.mul_pos hp (by omega)
  rw [xor_nn, and_neg _ hu, e, and_pred t q]
  have e2 : ((2 ^ t * (2 * q + 1) : Nat) : Int) - ((2 ^ t * (2 * q) : Nat) : Int) = ((2 ^ t : Nat) : Int) := by
    rw [show 2 ^ t * (2 * q + 1) = 2 ^ t * (2 * q) + 2 ^ t by rw [Nat.mul_add, Nat.mul_one]]
    omega
  rw [e2]
  unfold Builtin.Int.intBits
  have hz : ¬ (((2 ^ t : Nat) : Int) == 0) = true := by
    rw [beq_iff_eq]
    omega
  rw [if_neg hz, Int.natAbs_natCast, Nat.log2_two_pow]
  omega
theorem high_word (y t : Nat) : Builtin.bitAnd ((y : Int) / 2 ^ t) 1 = ((y / 2 ^ t % 2 : Nat) : Int) := by
  rw [PyProof.Rows.bitAnd_m1, ← PySem.W.kbt_cast t]
  omega
theorem mark_word {x y : Nat} (h : x ≠ y) : 2 * (((Builtin.Int.intBits (Builtin.bitAnd (Builtin.bitXor (x : Int) (y : Int)) (-(Builtin.bitXor (x : Int) (y : Int)))) : Nat) : Int) - 1) +
    Builtin.bitAnd ((y : Int) / 2 ^ (((Builtin.Int.intBits (Builtin.bitAnd (Builtin.bitXor (x : Int) (y : Int)) (-(Builtin.bitXor (x : Int) (y : Int)))) : Nat) : Int) - 1).toNat) 1 = (mk x y : Nat) := by
  rw [low_word h, Int.toNat_natCast, high_word]
  unfold mk
  omega
end M07

set_option Elab.async false
set_option linter.all false
set_option maxRecDepth 100000
namespace Loc
open PySem PySem.Spec PyProof.Rows L2 TL
/-! ### texts as lists of signs -/
mutual
def cd : Nd → List Nat
  | .el n => numL n
  | .run b c => cd b ++ 94 :: numL c
  | .blk ps => 40 :: cds ps
def cds : List Nd → List Nat
  | [] => [41]
  | a :: r => cd a ++ cdt r
def cdt : List Nd → List Nat
  | [] => [41]
  | a :: r => 32 :: (cd a ++ cdt r)
end
theorem cd_run (b : Nd) (c : Nat) : cd (.run b c) = cd b ++ 94 :: numL c := by rw [cd]
/-- a sign of a text -/
def Sg (c : Nat) : Prop := (48 ≤ c ∧ c ≤ 57) ∨ c = 32 ∨ c = 40 ∨ c = 41 ∨ c = 94
theorem numL_sg (n : Nat) : ∀ c ∈ numL n, 48 ≤ c ∧ c ≤ 57 := fun c hc => numL_digits n c hc
mutual
theorem cd_sg : ∀ a : Nd, ∀ c ∈ cd a, Sg c
  | .el n, c, h => by
    unfold cd at h
    exact .inl (numL_sg n c h)
  | .run b k, c, h => by
    unfold cd at h
    rcases List.mem_append.mp h with h | h
    · exact cd_sg b c h
    rcases List.mem_cons.mp h with h | h
    · exact .inr (.inr (.inr (.inr h)))
    · exact .inl (numL_sg k c h)
  | .blk ps, c, h => by
    unfold cd at h
    rcases List.mem_cons.mp h with h | h
    · exact .inr (.inr (.inl h))
    · exact cds_sg ps c h
theorem cds_sg : ∀ ps : List Nd, ∀ c ∈ cds ps, Sg c
  | [], c, h => by
    unfold cds at h
    exact .inr (.inr (.inr (.inl (List.mem_singleton.mp h))))
  | a :: r, c, h => by
    unfold cds at h
    rcases List.mem_append.mp h with h | h
    · exact cd_sg a c h
    · exact cdt_sg r c h
theorem cdt_sg : ∀ ps : List Nd, ∀ c ∈ cdt ps, Sg c
  | [], c, h => by
    unfold cdt at h
    exact .inr (.inr (.inr (.inl (List.mem_singleton.mp h))))
  | a :: r, c, h => by
    unfold cdt at h
    rcases List.mem_cons.mp h with h | h
    · exact .inr (.inl h)
    rcases List.mem_append.mp h with h | h
    · exact cd_sg a c h
    · exact cdt_sg r c h
end
/-- what may stand behind a node's text; behind that of a base -/
def Dl (s : List Nat) : Prop := s = [] ∨ ∃ r, s = 32 :: r ∨ s = 41 :: r
def Dv (s : List Nat) : Prop := Dl s ∨ ∃ r, s = 94 :: r
theorem Dv.no {s : List Nat} {c : Nat} {r : List Nat} (h : Dv s) (e : s = c :: r) (d : (48 ≤ c ∧ c ≤ 57) ∨ c = 40) : False := by
  rcases h with (h | ⟨q, h | h⟩) | ⟨q, h⟩
  · rw [h] at e; cases e
  · rw [h] at e
    injection e with e _
    omega
  · rw [h] at e
    injection e with e _
    omega
  · rw [h] at e
    injection e with e _
    omega
theorem digs : ∀ (x y s t : List Nat), (∀ c ∈ x, 48 ≤ c ∧ c ≤ 57) → (∀ c ∈ y, 48 ≤ c ∧ c ≤ 57) → Dv s → Dv t → x ++ s = y ++ t → x = y ∧ s = t
  | [], [], s, t, _, _, _, _, e => ⟨rfl, e⟩
  | [], d :: y, s, t, _, hy, ds, _, e => (ds.no e (.inl (hy d List.mem_cons_self))).elim
  | d :: x, [], s, t, hx, _, _, dt, e => (dt.no e.symm (.inl (hx d List.mem_cons_self))).elim
  | c :: x, d :: y, s, t, hx, hy, ds, dt, e => by
    injection e with e1 e2
    obtain ⟨h1, h2⟩ := digs x y s t (fun z hz => hx z (List.mem_cons_of_mem _ hz)) (fun z hz => hy z (List.mem_cons_of_mem _ hz)) ds dt e2
    exact ⟨by rw [e1, h1], h2⟩
theorem Dl.no94 {r : List Nat} (h : Dl (94 :: r)) : False := by
  rcases h with h | ⟨q, h | h⟩
  · cases h
  · injection h with h _; exact absurd h (by decide)
  · injection h with h _; exact absurd h (by decide)
mutual
theorem cd_head : ∀ a : Nd, ∃ c r, cd a = c :: r ∧ ((48 ≤ c ∧ c ≤ 57) ∨ c = 40)
  | .el n => by
    unfold cd
    cases e : numL n with
    | nil => exact absurd e (numL_ne n)
    | cons c r => exact ⟨c, r, rfl, .inl (numL_sg n c (by rw [e]; exact List.mem_cons_self))⟩
  | .run b k => by
    obtain ⟨c, r, e, d⟩ := cd_head b
    unfold cd
    rw [e]
    exact ⟨c, _, rfl, d⟩
  | .blk ps => by
    unfold cd
    exact ⟨40, _, rfl, .inr rfl⟩
end
theorem cdt_dl (ps : List Nd) (s : List Nat) : Dl (cdt ps ++ s) := by
  cases ps with
  | nil => unfold cdt; exact .inr ⟨_, .inr rfl⟩
  | cons a r => unfold cdt; exact .inr ⟨_, .inl rfl⟩
def Inj (a : Nd) : Prop := (∀ (b : Nd) (l l' : Nat) (s t : List Nat), a.isRun = false → b.isRun = false → Ok a l → Ok b l' → Dv s → Dv t → cd a ++ s = cd b ++ t → a = b ∧ s = t)
def InjU (a : Nd) : Prop := (∀ (b : Nd) (l l' : Nat) (s t : List Nat), Ok a l → Ok b l' → Dl s → Dl t → cd a ++ s = cd b ++ t → a = b ∧ s = t)
theorem injU_of {a : Nd} (h : Inj a) (hr : a.isRun = false) : InjU a := fun b l l' s t oa ob ds dt e => by
  cases b with
  | run b c =>
    rw [cd_run, List.append_assoc] at e
    have ob' := ob
    unfold Ok at ob'
    obtain ⟨_, h2⟩ := h b l l' s _ hr ob'.2.2.1 oa ob'.2.2.2 (.inl ds) (.inr ⟨numL c ++ t, rfl⟩) e
    exact (Dl.no94 (h2 ▸ ds)).elim
  | el n => exact h _ l l' s t hr rfl oa ob (.inl ds) (.inl dt) e
  | blk ps => exact h _ l l' s t hr rfl oa ob (.inl ds) (.inl dt) e
theorem injU_run {a : Nd} {c : Nat} (h : Inj a) : InjU (.run a c) := fun b l l' s t oa ob ds dt e => by
  unfold Ok at oa
  cases b with
  | run b d =>
    unfold Ok at ob
    rw [cd_run, cd_run, List.append_assoc, List.append_assoc] at e
    obtain ⟨h1, h2⟩ := h b l l' _ _ oa.2.2.1 ob.2.2.1 oa.2.2.2 ob.2.2.2 (.inr ⟨_, rfl⟩) (.inr ⟨_, rfl⟩) e
    injection h2 with _ h2
    have h2 : numL c ++ s = numL d ++ t := h2
    obtain ⟨h3, h4⟩ := digs _ _ s t (numL_sg c) (numL_sg d) (.inl ds) (.inl dt) h2
    exact ⟨by rw [h1, numL_inj h3], h4⟩
  | el n =>
    rw [cd_run, List.append_assoc] at e
    obtain ⟨_, h2⟩ := h (.el n) l l' _ t oa.2.2.1 rfl oa.2.2.2 ob (.inr ⟨numL c ++ s, rfl⟩) (.inl dt) e
    exact (Dl.no94 (h2 ▸ dt)).elim
  | blk ps =>
    rw [cd_run, List.append_assoc] at e
    obtain ⟨_, h2⟩ := h (.blk ps) l l' _ t oa.2.2.1 rfl oa.2.2.2 ob (.inr ⟨numL c ++ s, rfl⟩) (.inl dt) e
    exact (Dl.no94 (h2 ▸ dt)).elim
mutual
theorem inj : ∀ a : Nd, Inj a
  | .el n => fun b l l' s t _ rb oa ob ds dt e => by
    cases b with
    | run b c => cases rb
    | el m =>
      unfold cd at e
      obtain ⟨h1, h2⟩ := digs _ _ s t (numL_sg n) (numL_sg m) ds dt e
      exact ⟨by rw [numL_inj h1], h2⟩
    | blk ps =>
      exfalso
      unfold cd at e
      cases en : numL n with
      | nil => exact numL_ne n en
      | cons c r =>
        rw [en, List.cons_append, List.cons_append] at e
        injection e with e _
        have := numL_sg n c (by rw [en]; exact List.mem_cons_self)
        omega
  | .run b c => fun _ _ _ _ _ ra => by cases ra
  | .blk ps => fun b l l' s t _ rb oa ob ds dt e => by
    cases b with
    | run b c => cases rb
    | el m =>
      exfalso
      unfold cd at e
      cases en : numL m with
      | nil => exact numL_ne m en
      | cons c r =>
        rw [en, List.cons_append, List.cons_append] at e
        injection e with e _
        have := numL_sg m c (by rw [en]; exact List.mem_cons_self)
        omega
    | blk qs =>
      unfold Ok at oa ob
      unfold cd at e
      rw [List.cons_append, List.cons_append] at e
      injection e with _ e
      match ps, qs, oa, ob, e with
      | [], _, oa, _, _ => exact absurd oa.2.1 (by simp)
      | _ :: _, [], _, ob, _ => exact absurd ob.2.1 (by simp)
      | a :: r, b :: q, oa, ob, e =>
        unfold cds at e
        have o1 := oa.2.2.2.1
        have o2 := ob.2.2.2.1
        unfold OkAll at o1 o2
        rw [List.append_assoc, List.append_assoc] at e
        obtain ⟨h1, h2⟩ := injUs a b _ _ _ _ o1.1 o2.1 (cdt_dl r s) (cdt_dl q t) e
        obtain ⟨h3, h4⟩ := injT r q _ _ s t o1.2 o2.2 h2
        exact ⟨by rw [h1, h3], h4⟩
theorem injUs : ∀ a : Nd, InjU a
  | .el n => injU_of (inj (.el n)) rfl
  | .run b c => injU_run (inj b)
  | .blk ps => injU_of (inj (.blk ps)) rfl
theorem injT : ∀ (ps qs : List Nd) (l l' : Nat) (s t : List Nat), OkAll ps l → OkAll qs l' → cdt ps ++ s = cdt qs ++ t → ps = qs ∧ s = t
  | [], [], _, _, s, t, _, _, e => by
    unfold cdt at e
    injection e with _ e
    exact ⟨rfl, e⟩
  | [], b :: q, _, _, s, t, _, _, e => by
    unfold cdt at e
    injection e with e _
    exact absurd e (by decide)
  | a :: r, [], _, _, s, t, _, _, e => by
    unfold cdt at e
    injection e with e _
    exact absurd e (by decide)
  | a :: r, b :: q, l, l', s, t, oa, ob, e => by
    unfold cdt at e
    rw [List.cons_append, List.cons_append, List.append_assoc, List.append_assoc] at e
    injection e with _ e
    unfold OkAll at oa ob
    obtain ⟨h1, h2⟩ := injUs a b l l' _ _ oa.1 ob.1 (cdt_dl r s) (cdt_dl q t) e
    obtain ⟨h3, h4⟩ := injT r q l l' s t oa.2 ob.2 h2
    exact ⟨by rw [h1, h3], h4⟩
end
theorem cd_inj {a b : Nd} {l l' : Nat} (oa : Ok a l) (ob : Ok b l') (e : cd a = cd b) : a = b :=
  (injUs a b l l' [] [] oa ob (.inl rfl) (.inl rfl) (by rw [e])).1
end Loc

set_option Elab.async false
set_option linter.all false
set_option maxRecDepth 100000
namespace Loc
open PySem PySem.Spec PyProof.Rows L2 TL
/-! ### first marks -/
def cp : List Nat → List Nat → Nat
  | a :: r, b :: q => if a = b then cp r q + 1 else 0
  | _, _ => 0
theorem cp_same : ∀ (a b : List Nat) (i : Nat), i < cp a b → ∃ x, a[i]? = some x ∧ b[i]? = some x
  | [], _, i, h => by unfold cp at h; exact absurd h (Nat.not_lt_zero _)
  | _ :: _, [], i, h => by unfold cp at h; exact absurd h (Nat.not_lt_zero _)
  | a :: r, b :: q, i, h => by
    unfold cp at h
    split at h
    · rename_i e
      cases i with
      | zero => exact ⟨a, rfl, by rw [e]; rfl⟩
      | succ i => exact cp_same r q i (by omega)
    · exact absurd h (Nat.not_lt_zero _)
theorem cp_le : ∀ (a b : List Nat), cp a b ≤ a.length ∧ cp a b ≤ b.length
  | [], _ => by unfold cp; exact ⟨Nat.zero_le _, Nat.zero_le _⟩
  | _ :: _, [] => by unfold cp; exact ⟨Nat.zero_le _, Nat.zero_le _⟩
  | a :: r, b :: q => by
    have := cp_le r q
    unfold cp
    simp only [List.length_cons]
    split <;> omega
/-- there they differ, or one has ended -/
theorem cp_end : ∀ (a b : List Nat), a ≠ b → a[cp a b]? ≠ b[cp a b]?
  | [], [], h => absurd rfl h
  | [], b :: q, _ => by unfold cp; simp
  | a :: r, [], _ => by unfold cp; simp
  | a :: r, b :: q, h => by
    unfold cp
    split
    · rename_i e
      exact cp_end r q fun z => h (by rw [e, z])
    · rename_i e
      simpa using e
def code (c : Nat) : Nat := if 48 ≤ c ∧ c ≤ 57 then c - 48 else if c = 32 then 10 else if c = 40 then 11 else if c = 41 then 12 else if c = 94 then 13 else 14
theorem code_lt {c : Nat} (h : Sg c) : code c < 14 := by
  unfold code
  unfold Sg at h
  split
  · omega
  split
  · omega
  split
  · omega
  split
  · omega
  split
  · omega
  · omega
theorem code_inj {c d : Nat} (h : Sg c) (k : Sg d) (e : code c = code d) : c = d := by
  unfold code at e
  unfold Sg at h k
  rcases h with h | h | h | h | h <;> rcases k with k | k | k | k | k <;> simp_all <;> omega
def codeAt (t : List Nat) (i : Nat) : Nat := match t[i]? with
  | some c => code c
  | none => 14
theorem codeAt_some {t : List Nat} {i c : Nat} (h : t[i]? = some c) : codeAt t i = code c := by unfold codeAt; rw [h]
theorem codeAt_none {t : List Nat} {i : Nat} (h : t[i]? = none) : codeAt t i = 14 := by unfold codeAt; rw [h]
theorem codeAt_le {t : List Nat} (h : ∀ c ∈ t, Sg c) (i : Nat) : codeAt t i ≤ 14 := by
  cases e : t[i]? with
  | none => rw [codeAt_none e]; exact Nat.le_refl _
  | some c => rw [codeAt_some e]; exact Nat.le_of_lt (code_lt (h c (List.mem_of_getElem? e)))
theorem codeAt_ne {a b : List Nat} (ha : ∀ c ∈ a, Sg c) (hb : ∀ c ∈ b, Sg c) {i : Nat} (h : a[i]? ≠ b[i]?) : codeAt a i ≠ codeAt b i := by
  cases e : a[i]? with
  | none =>
    cases k : b[i]? with
    | none => rw [e, k] at h; exact absurd rfl h
    | some d =>
      rw [codeAt_none e, codeAt_some k]
      have := code_lt (hb d (List.mem_of_getElem? k))
      omega
  | some c =>
    have h1 := code_lt (ha c (List.mem_of_getElem? e))
    cases k : b[i]? with
    | none =>
      rw [codeAt_none k, codeAt_some e]
      omega
    | some d =>
      rw [codeAt_some e, codeAt_some k]
      intro z
      have := code_inj (ha c (List.mem_of_getElem? e)) (hb d (List.mem_of_getElem? k)) z
      rw [e, k, this] at h
      exact h rfl
def fmk (a b : List Nat) : Nat := 16 * cp a b + codeAt b (cp a b)
def fmt : List Nat → List (List Nat) → List Nat
  | _, [] => []
  | a, b :: r => fmk a b :: fmt b r
def fms : List (List Nat) → List Nat
  | [] => []
  | a :: r => codeAt a 0 :: fmt a r
theorem fmt_length : ∀ (a : List Nat) (l : List (List Nat)), (fmt a l).length = l.length
  | _, [] => rfl
  | a, b :: r => by show (fmt b r).length + 1 = r.length + 1; rw [fmt_length b r]
theorem fms_length (l : List (List Nat)) : (fms l).length = l.length := by
  cases l with
  | nil => rfl
  | cons a r => show (fmt a r).length + 1 = r.length + 1; rw [fmt_length]
theorem fmt_get : ∀ (a : List Nat) (l : List (List Nat)) (i : Nat) (x y : List Nat), (a :: l)[i]? = some x → (a :: l)[i + 1]? = some y → (fmt a l)[i]? = some (fmk x y)
  | a, [], i, x, y, _, h => by simp at h
  | a, b :: r, 0, x, y, h1, h2 => by
    simp at h1 h2
    subst h1; subst h2; rfl
  | a, b :: r, i + 1, x, y, h1, h2 => by
    show (fmt b r)[i]? = _
    exact fmt_get b r i x y h1 h2
theorem fms_get (l : List (List Nat)) (i : Nat) (x y : List Nat) (h1 : l[i]? = some x) (h2 : l[i + 1]? = some y) : (fms l)[i + 1]? = some (fmk x y) := by
  cases l with
  | nil => simp at h1
  | cons a r => exact fmt_get a r i x y h1 h2
/-- neighbours unlike -/
def UnlT : List (List Nat) → Prop
  | a :: b :: r => a ≠ b ∧ UnlT (b :: r)
  | _ => True
theorem fmk_ne {a b c : List Nat} (ha : ∀ x ∈ a, Sg x) (hb : ∀ x ∈ b, Sg x) (hc : ∀ x ∈ c, Sg x) (h1 : a ≠ b) (h2 : b ≠ c) : fmk a b ≠ fmk b c := fun e => by
  have l1 := codeAt_le hb (cp a b)
  have l2 := codeAt_le hc (cp b c)
  unfold fmk at e
  have ei : cp a b = cp b c := by omega
  have ec : codeAt b (cp a b) = codeAt c (cp b c) := by omega
  rw [ei] at ec
  exact codeAt_ne hb hc (cp_end b c h2) ec
theorem fmk_ne0 {a b : List Nat} (ha : ∀ x ∈ a, Sg x) (hb : ∀ x ∈ b, Sg x) (h : a ≠ b) : codeAt a 0 ≠ fmk a b := fun e => by
  have l1 := codeAt_le ha 0
  have l2 := codeAt_le hb (cp a b)
  unfold fmk at e
  have e0 : cp a b = 0 := by omega
  have k := cp_end a b h
  rw [e0] at k e
  exact codeAt_ne ha hb k (by omega)
theorem fmt_unl : ∀ (a : List Nat) (l : List (List Nat)), (∀ t ∈ a :: l, ∀ x ∈ t, Sg x) → UnlT (a :: l) → M07.Unl (fmt a l)
  | _, [], _, _ => trivial
  | _, [_], _, _ => trivial
  | a, b :: c :: r, hs, u => ⟨fmk_ne (hs a (by simp)) (hs b (by simp)) (hs c (by simp)) u.1 u.2.1, fmt_unl b (c :: r) (fun t ht => hs t (List.mem_cons_of_mem _ ht)) u.2⟩
theorem fms_unl (l : List (List Nat)) (hs : ∀ t ∈ l, ∀ x ∈ t, Sg x) (u : UnlT l) : M07.Unl (fms l) := by
  match l, hs, u with
  | [], _, _ => trivial
  | [_], _, _ => trivial
  | a :: b :: r, hs, u => exact ⟨fmk_ne0 (hs a (by simp)) (hs b (by simp)) u.1, fmt_unl a (b :: r) hs u⟩
theorem UnlT.get : ∀ {l : List (List Nat)} {i : Nat} {x y : List Nat}, UnlT l → l[i]? = some x → l[i + 1]? = some y → x ≠ y
  | [], _, _, _, _, h, _ => by simp at h
  | [_], i, _, _, _, _, h => by simp at h
  | a :: b :: r, 0, x, y, u, h1, h2 => by
    simp at h1 h2
    subst h1; subst h2; exact u.1
  | a :: b :: r, i + 1, x, y, u, h1, h2 => UnlT.get (l := b :: r) (i := i) u.2 (by simpa using h1) (by simpa using h2)
/-- unlike bases, unlike texts -/
theorem unlT_of {l : Nat} : ∀ {ns : List Nd}, OkAll ns l → Unb ns → UnlT (ns.map cd)
  | [], _, _ => trivial
  | [_], _, _ => trivial
  | a :: b :: r, ok, u => by
    unfold OkAll at ok
    have ok2 := ok.2
    unfold OkAll at ok2
    exact ⟨fun e => u.1 (by rw [cd_inj ok.1 ok2.1 e]), unlT_of (ns := b :: r) ok.2 u.2⟩
theorem cds_sgs (ns : List Nd) : ∀ t ∈ ns.map cd, ∀ x ∈ t, Sg x := fun t ht => by
  obtain ⟨n, _, rfl⟩ := List.mem_map.mp ht
  exact cd_sg n
mutual
theorem tl_txt : ∀ a : Nd, tl (txt a) = cd a
  | .el n => by
    unfold txt cd
    exact tl_num n
  | .run b c => by
    rw [show txt (.run b c) = txt b ++ Str.ofString "^" ++ numT c by rw [txt], cd_run, tl_append, tl_append, tl_txt b, List.append_assoc]
    have e1 : tl (Str.ofString "^") = [94] := by decide +kernel
    have e2 : tl (numT c) = numL c := tl_num c
    rw [e1, e2]
    rfl
  | .blk ps => by
    rw [show txt (.blk ps) = Str.ofString "(" ++ Txt.join " " (txts ps) ++ Str.ofString ")" by rw [txt], show cd (.blk ps) = 40 :: cds ps by rw [cd], tl_append, tl_append, join_eq, tl_join]
    have e1 : tl (Str.ofString "(") = [40] := by decide +kernel
    have e2 : tl (Str.ofString ")") = [41] := by decide +kernel
    have e3 : tl (Str.ofString " ") = [32] := by decide +kernel
    rw [e1, e2, e3, List.append_assoc]
    show 40 :: (joinL [32] ((txts ps).map tl) ++ [41]) = _
    rw [tl_txts ps]
theorem tl_txts : ∀ ps : List Nd, joinL [32] ((txts ps).map tl) ++ [41] = cds ps
  | [] => by
    rw [show txts [] = [] by rw [txts], show cds [] = [41] by rw [cds]]
    rfl
  | [a] => by
    rw [show txts [a] = [txt a] by rw [txts, txts], show cds [a] = cd a ++ cdt [] by rw [cds], show cdt [] = [41] by rw [cdt], ← tl_txt a]
    rfl
  | a :: b :: r => by
    rw [show txts (a :: b :: r) = txt a :: txts (b :: r) by rw [txts], show cds (a :: b :: r) = cd a ++ cdt (b :: r) by rw [cds], show cdt (b :: r) = 32 :: (cd b ++ cdt r) by rw [cdt], ← show cds (b :: r) = cd b ++ cdt r by rw [cds], ← tl_txts (b :: r), ← tl_txt a]
    rw [show txts (b :: r) = txt b :: txts r by rw [txts]]
    show tl (txt a) ++ ([32] ++ joinL [32] ((txt b :: txts r).map tl)) ++ [41] = _
    simp
end
theorem cd_len {a : Nd} : (cd a).length = (txt a).length := by rw [← tl_txt, len_tl]
/-- the sign's place in the program's list of signs -/
theorem sign_at {c : Nat} (h : Sg c) : ∃ rest, Builtin.Str.occurrences "0123456789 ()^" ⟨#[c]⟩ 0 (Str.ofString "0123456789 ()^").length 1 = code c :: rest := by
  unfold Sg at h
  have : c = 48 ∨ c = 49 ∨ c = 50 ∨ c = 51 ∨ c = 52 ∨ c = 53 ∨ c = 54 ∨ c = 55 ∨ c = 56 ∨ c = 57 ∨ c = 32 ∨ c = 40 ∨ c = 41 ∨ c = 94 := by omega
  rcases this with rfl | rfl | rfl | rfl | rfl | rfl | rfl | rfl | rfl | rfl | rfl | rfl | rfl | rfl <;> exact ⟨[], by decide +kernel⟩
/-- .. in the law's list, with one more sign -/
theorem sign_atL {c : Nat} (h : Sg c ∨ c = 36) : ∃ rest, Builtin.Str.occurrences "0123456789 ()^$" ⟨#[c]⟩ 0 (Str.ofString "0123456789 ()^$").length 1 = code c :: rest := by
  unfold Sg at h
  have : c = 48 ∨ c = 49 ∨ c = 50 ∨ c = 51 ∨ c = 52 ∨ c = 53 ∨ c = 54 ∨ c = 55 ∨ c = 56 ∨ c = 57 ∨ c = 32 ∨ c = 40 ∨ c = 41 ∨ c = 94 ∨ c = 36 := by omega
  rcases this with rfl | rfl | rfl | rfl | rfl | rfl | rfl | rfl | rfl | rfl | rfl | rfl | rfl | rfl | rfl <;> exact ⟨[], by decide +kernel⟩
end Loc
namespace Loc
open PySem PySem.Spec PyProof.Rows L2 TL
theorem cp_stop : ∀ (a b : List Nat) (x y : Nat), a[cp a b]? = some x → b[cp a b]? = some y → x ≠ y
  | [], _, x, y, h, _ => by simp at h
  | _ :: _, [], x, y, _, h => by simp at h
  | a :: r, b :: q, x, y, h, k => by
    unfold cp at h k
    split at h
    · rename_i e
      rw [if_pos e] at k
      exact cp_stop r q x y (by simpa using h) (by simpa using k)
    · rename_i e
      rw [if_neg e] at k
      have e1 : a = x := by simpa using h
      have e2 : b = y := by simpa using k
      rw [← e1, ← e2]
      exact e
abbrev vT (ns : List Nd) : List V := ns.map fun n => V.str (txt n)
theorem vT_get {ns : List Nd} {i : Nat} {n : Nd} (h : ns[i]? = some n) : (vT ns)[i]? = some (.str (txt n)) := by
  rw [List.getElem?_map, h]
  rfl
theorem one_sign {c d : Nat} : decide (V.str ⟨#[c]⟩ = V.str ⟨#[d]⟩) = decide (c = d) := by
  by_cases h : c = d
  · rw [h, decide_eq_true rfl, decide_eq_true rfl]
  · rw [decide_eq_false h, decide_eq_false (fun e => h (by
      injection e with e
      injection e with e
      have := congrArg (fun a => a.toList) e
      simpa using this))]
theorem len_cd {a : Nd} {l : Nat} (h : Ok a l) (hw : wide l ≤ 1000000) : (txt a).length ≤ 1000000 ∧ (txt a).length ≤ sizeLine := by
  have := txt_len a l h
  have : (txt a).length ≤ 1000000 := by split at this <;> omega
  exact ⟨this, Nat.le_trans this (by decide)⟩
end Loc

set_option Elab.async false
set_option linter.all false
set_option maxRecDepth 100000
namespace Loc
open PySem PySem.Spec PyProof.Rows L2
/-! ### list(range(a, b, c)); for x in r, r a range that is at hand -/
section
variable {X : Cx} {tg : Expr}
def tLstRg3 (ta : TA) : TE := fun σ H Q => ta σ H fun vs H1 => ∃ (i j c : Int) (n : Nat), vs = [.int i, .int j, .int c] ∧ RgC i j c n ∧ n ≤ 2 ^ 24 ∧ ∀ q, H1 q = none → Q (.ref q) (upd H1 q (.lst ((List.range n).map fun k => V.int (i + (k : Nat) * c))))
theorem vals_rgC {a c : Int} {n : Nat} {acc : Array Value} (h : ItemsOf (fun i v => ∃ t, v = .int (a + i * c) t) acc n) : Vals ((List.range n).map fun k => V.int (a + (k : Nat) * c)) acc.toList := by
  have e : acc.toList.length = n := by rw [Array.length_toList]; exact h.1
  rw [← e]
  refine vals_of_get acc.toList (fun k => V.int (a + (k : Nat) * c)) fun j u hj => ?_
  obtain ⟨t, rfl⟩ := h.2 j u (by rw [← hj, Array.getElem?_toList])
  exact ⟨t, rfl⟩
theorem pe_listRg3 {a b c : Expr} {ta : TA} {p p2 pos pos2 : Pos} (hc : X.calm = true) (hg : Gl X "list") (hm : X.mg "list" = none) (hg2 : Gl X "range") (hm2 : X.mg "range" = none) (ha : PA X [a, b, c] ta)
    (na : starEach [(.Call (.Name "range" p2) [a, b, c] [] pos2)] X.env = (false, eval (.Call (.Name "range" p2) [a, b, c] [] pos2) X.env) :: starEach [] X.env := by rfl)
    (hs : starEach [a, b, c] X.env = (false, eval a X.env) :: starEach [b, c] X.env := by rfl) (hpl : (backTo pos2 (starEach [b, c] X.env)).any (·.1) = false := by rfl) :
    PE X (.Call (.Name "list" p) [.Call (.Name "range" p2) [a, b, c] [] pos2] [] pos) (tLstRg3 ta) := by
  refine ⟨fun pins s σ H Q I h => ?_⟩
  have inner : wpAny (model X.prog X.w) X.A (eval (.Call (.Name "range" p2) [a, b, c] [] pos2) X.env) (fun x s' => ∃ r i j k n t u v H', x = .ref r ∧ IsRange s'.heap r i j k t u v ∧ Inv X pins σ H' s' ∧ RgC i j k n ∧ n ≤ 2 ^ 24 ∧
      ∀ q, H' q = none → Q (.ref q) (upd H' q (.lst ((List.range n).map fun z => V.int (i + (z : Nat) * k))))) X.xe s := by
    refine Call_ (ld_blt I hg2 hm2 boot_range (PyProof.Rows.callWith_type1 (thn (ha.run pos2 pins s σ H _ I h) fun us s1 ⟨vs, H1, I1, r1, q1⟩ => ?_) hs hpl))
    obtain ⟨i, j, k, n, e, ⟨c0, c1, c2, c3⟩, hn, q⟩ := q1
    subst e
    cases r1 with
    | cons r rr =>
      cases rr with
      | cons r' rr =>
        cases rr with
        | cons r'' rr =>
          cases rr
          obtain ⟨t, rfl⟩ := r
          obtain ⟨t', rfl⟩ := r'
          obtain ⟨t'', rfl⟩ := r''
          refine call_range_3 c0 ?_ (.inl (PyProof.noPylong_small c1))
          exact ⟨_, i, j, k, n, _, _, _, H1, rfl, IsRange.new _ _ _ _ _ _ _, I1.kept (t' := s1.toks) fun b o e => Heap.get?_push_of_some _ e, ⟨c0, c1, c2, c3⟩, hn, q⟩
  refine Call_ (ld_blt I hg hm boot_list (PyProof.Rows.callWith_type1 (args_cons (thn inner fun x s1 ⟨r, i, j, k, n, t, u, v, H1, ex, hr, I1, ok, hn, q⟩ => args_nil ?_) na) na))
  subst ex
  obtain ⟨c0, c1, c2, c3⟩ := ok
  refine call_list_range (n := n) (I1.ok.hd hc) hr c2 c3 hn fun h' tk acc c' hk e' hi => ?_
  refine ⟨.ref s1.heap.objs.size, upd H1 s1.heap.objs.size (.lst ((List.range n).map fun z => V.int (i + (z : Nat) * k))), I1.laid hk (Nat.le_refl _) (show ObjOk X.prog X.w _ _ _ (.lst _) from ⟨?_, acc.toList, c', vals_rgC hi, ?_⟩), rfl, q _ (I1.hok.fresh (Nat.le_refl _))⟩
  · rw [List.length_map, List.length_range, sizeLine_eq]; omega
  · rw [Array.toArray_toList]; exact e'
/-- a range that is at hand -/
def iRngV (te : TE) : TI := fun σ H R => te σ H fun x H1 => ∃ r lo hi, x = .ref r ∧ H1 r = some (.rng lo hi) ∧ (-(2 ^ 62) ≤ lo ∧ lo < 2 ^ 62 ∧ -(2 ^ 62) ≤ hi ∧ hi < 2 ^ 62) ∧ R (Itr lo (hi - lo).toNat) H1
theorem pi_rngV {e : Expr} {te : TE} (he : PE X e te) : PI X tg e (iRngV te) := by
  refine ⟨fun pins s σ H R I h => ?_⟩
  refine thn (he.run pins s σ H _ I h) fun v s1 ⟨x, H1, I1, r1, q1⟩ => ?_
  obtain ⟨r, lo, hi, rfl, hr, ⟨h1, h2, h3, h4⟩, q⟩ := q1
  cases r1
  obtain ⟨t, u, v, eo⟩ := I1.hok r _ hr
  refine wpAny_pyIter_range (t := t) (u := u) (v := v) eo (small_one h1 h2 h3 h4) ?_
  refine ⟨s1.heap.objs.size, [s1.heap.objs.size], _, _, H1, rfl, I1.kept (t' := s1.toks) fun b o e => Heap.get?_push_of_some _ e, turn_range _ lo (hi - lo).toNat, ?_, fun b hb => ?_, q⟩
  · have e1 : lo + ((0 : Nat) : Int) * 1 = lo := by simp
    have e2 : (((hi - lo).toNat : Nat) : Int) - ((0 : Nat) : Int) = Builtin.Range.rangeSize lo hi 1 := by rw [rangeSize_one]; split <;> omega
    show IsRangeIter _ _ (lo + ((0 : Nat) : Int) * 1) ((((hi - lo).toNat : Nat) : Int) - ((0 : Nat) : Int)) 1
    rw [e1, e2]
    exact Heap.get?_push_size _ rfl
  · have e : b = s1.heap.objs.size := by simpa using hb
    subst e
    exact I1.fpOk (Nat.le_refl _) (I1.hok.fresh (Nat.le_refl _))
end
theorem rgC_two {b d : Nat} (hd : 2 ≤ d) (h : b + d < 2 ^ 30) : RgC (b : Int) (((b + d : Nat) : Int) - 1) 2 (d / 2) := by
  have e : Builtin.Range.rangeSize (b : Int) (((b + d : Nat) : Int) - 1) 2 = ((d / 2 : Nat) : Int) := by
    unfold Builtin.Range.rangeSize
    rw [if_pos (by decide), if_pos (by omega)]
    omega
  refine ⟨by decide, by decide, ?_, e⟩
  unfold Builtin.Range.small
  rw [e]
  simp only [Builtin.Range.rangeFitsLong, Bool.and_eq_true, Bool.or_eq_true, decide_eq_true_eq, beq_iff_eq, show (2 : Int) > 0 by decide, if_true]
  omega
end Loc

set_option linter.all false
/-! pieces of a row: peaks, stretches, cuts -/
namespace M10
def pk (ms : List Nat) (i : Nat) : Bool := match ms[i - 1]?, ms[i]?, ms[i + 1]? with
  | some a, some b, some c => decide (a < b) && decide (c < b)
  | _, _, _ => false
def pks (ms : List Nat) : List Nat := (List.range' 2 (ms.length - 3)).filter (pk ms)
theorem pk_no {ms : List Nat} {i : Nat} (h : pk ms i = true) : pk ms (i + 1) = false := by
  unfold pk at h ⊢
  rw [Nat.add_sub_cancel]
  cases h0 : ms[i - 1]? with
  | none => rw [h0] at h; exact absurd h (by simp)
  | some a =>
    cases h1 : ms[i]? with
    | none => simp [h0, h1] at h
    | some b =>
      cases h2 : ms[i + 1]? with
      | none => simp
      | some c =>
        rw [h0, h1, h2] at h
        simp only [Bool.and_eq_true, decide_eq_true_eq] at h
        cases h3 : ms[i + 1 + 1]? with
        | none => simp
        | some d =>
          simp only [Bool.and_eq_false_iff, decide_eq_false_iff_not]
          omega
def Gap (n : Nat) : Nat → List Nat → Prop
  | b, [] => b + 2 ≤ n
  | b, t :: r => b + 2 ≤ t ∧ Gap n t r
theorem gap_filter {p : Nat → Bool} (hp : ∀ i, p i = true → p (i + 1) = false) (n : Nat) : ∀ k s b, (b + 2 ≤ s ∨ (b + 1 ≤ s ∧ p s = false)) → s + k + 1 ≤ n → b + 2 ≤ n → Gap n b ((List.range' s k).filter p)
  | 0, s, b, _, _, h => h
  | k + 1, s, b, h1, h2, h3 => by
    rw [List.range'_succ]
    cases e : p s with
    | true =>
      rw [List.filter_cons_of_pos e]
      refine ⟨?_, gap_filter hp n k (s + 1) s (.inr ⟨Nat.le_refl _, hp s e⟩) (by omega) (by omega)⟩
      rcases h1 with h1 | ⟨_, h1⟩
      · exact h1
      · rw [e] at h1; cases h1
    | false =>
      rw [List.filter_cons_of_neg (by rw [e]; simp)]
      exact gap_filter hp n k (s + 1) b (.inl (by rcases h1 with h1 | h1 <;> omega)) (by omega) h3
theorem pks_gap {ms : List Nat} (h : 2 ≤ ms.length) : Gap ms.length 0 (pks ms) := by
  unfold pks
  by_cases z : ms.length ≤ 3
  · rw [show ms.length - 3 = 0 by omega]
    exact h
  · exact gap_filter (p := pk ms) (fun i h => pk_no h) ms.length (ms.length - 3) 2 0 (.inl (Nat.le_refl _)) (by omega) h
/-- the pieces of the stretch of d nodes from b on -/
def str : Nat → Nat → List (Nat × Nat)
  | d + 4, b => (b, b + 2) :: str (d + 2) (b + 2)
  | d, b => [(b, b + d)]
def stz (z : Nat × Nat) : List (Nat × Nat) := str (z.2 - z.1) z.1
def sts (n : Nat) : Nat → List Nat → List (Nat × Nat)
  | b, [] => [(b, n)]
  | b, t :: r => (b, t) :: sts n t r
def pcs (n : Nat) (tops : List Nat) : List (Nat × Nat) := (sts n 0 tops).flatMap stz
theorem sts_fst (n : Nat) : ∀ b tops, (sts n b tops).map (·.1) = b :: tops
  | b, [] => rfl
  | b, t :: r => by rw [sts, List.map_cons, sts_fst n t r]
theorem sts_snd (n : Nat) : ∀ b tops, (sts n b tops).map (·.2) = tops ++ [n]
  | b, [] => rfl
  | b, t :: r => by rw [sts, List.map_cons, sts_snd n t r]; rfl
theorem sts_gap {n : Nat} : ∀ {b : Nat} {tops : List Nat}, Gap n b tops → ∀ z ∈ sts n b tops, z.1 + 2 ≤ z.2 ∧ z.2 ≤ n
  | b, [], h, z, hz => by
    have : z = (b, n) := by simpa [sts] using hz
    rw [this]
    exact ⟨h, Nat.le_refl _⟩
  | b, t :: r, h, z, hz => by
    have le : ∀ {b : Nat} {r : List Nat}, Gap n b r → b ≤ n := by
      intro b r
      induction r generalizing b with
      | nil => intro h; have : b + 2 ≤ n := h; omega
      | cons t r ih => intro h; have := ih h.2; have := h.1; omega
    rcases List.mem_cons.mp hz with e | hz
    · rw [e]
      exact ⟨h.1, le h.2⟩
    · exact sts_gap h.2 z hz
def Cont : Nat → Nat → List (Nat × Nat) → Prop
  | b, n, [] => b = n
  | b, n, z :: r => z.1 = b ∧ b + 2 ≤ z.2 ∧ z.2 ≤ b + 3 ∧ Cont z.2 n r
theorem str_cont : ∀ d b, 2 ≤ d → Cont b (b + d) (str d b)
  | 0, _, h => by omega
  | 1, _, h => by omega
  | 2, b, _ => ⟨rfl, Nat.le_refl _, by show b + 2 ≤ b + 3; omega, rfl⟩
  | 3, b, _ => ⟨rfl, by show b + 2 ≤ b + 3; omega, Nat.le_refl _, rfl⟩
  | d + 4, b, _ => by
    refine ⟨rfl, Nat.le_refl _, by show b + 2 ≤ b + 3; omega, ?_⟩
    have := str_cont (d + 2) (b + 2) (by omega)
    rw [show b + (d + 4) = b + 2 + (d + 2) by omega]
    exact this
theorem Cont.app : ∀ {xs ys : List (Nat × Nat)} {b t n : Nat}, Cont b t xs → Cont t n ys → Cont b n (xs ++ ys)
  | [], _, b, t, n, h, k => by have h : b = t := h; rw [h]; exact k
  | z :: r, ys, b, t, n, h, k => ⟨h.1, h.2.1, h.2.2.1, Cont.app h.2.2.2 k⟩
theorem sts_cont {n : Nat} : ∀ {b : Nat} {tops : List Nat}, Gap n b tops → Cont b n ((sts n b tops).flatMap stz)
  | b, [], h => by
    have h : b + 2 ≤ n := h
    show Cont b n (stz (b, n) ++ [])
    rw [List.append_nil]
    have := str_cont (n - b) b (by omega)
    rw [show b + (n - b) = n by omega] at this
    exact this
  | b, t :: r, h => by
    rw [sts, List.flatMap_cons]
    have := str_cont (t - b) b (by have := h.1; omega)
    rw [show b + (t - b) = t by have := h.1; omega] at this
    exact Cont.app this (sts_cont h.2)
theorem Cont.ends : ∀ {r : List (Nat × Nat)} {z : Nat × Nat} {b n : Nat}, Cont b n (z :: r) → r.map (·.1) ++ [n] = (z :: r).map (·.2)
  | [], z, b, n, h => by have := h.2.2.2; have this : z.2 = n := this; simp [this]
  | y :: r, z, b, n, h => by
    have := Cont.ends (r := r) (z := y) h.2.2.2
    have e : y.1 = z.2 := h.2.2.2.1
    rw [List.map_cons, List.cons_append, this, e]
    rfl
theorem Cont.bnd : ∀ {r : List (Nat × Nat)} {b n : Nat}, Cont b n r → b ≤ n ∧ ∀ z ∈ r, z.1 + 2 ≤ z.2 ∧ z.2 ≤ z.1 + 3 ∧ z.2 ≤ n
  | [], b, n, h => ⟨Nat.le_of_eq h, fun z hz => nomatch hz⟩
  | y :: r, b, n, h => by
    have k := Cont.bnd h.2.2.2
    have := h.1
    have := h.2.1
    have := h.2.2.1
    refine ⟨by omega, fun z hz => ?_⟩
    rcases List.mem_cons.mp hz with e | hz
    · rw [e]; omega
    · exact k.2 z hz
theorem Cont.len : ∀ {r : List (Nat × Nat)} {b n : Nat}, Cont b n r → b + 2 * r.length ≤ n
  | [], b, n, h => Nat.le_of_eq h
  | y :: r, b, n, h => by
    have k := Cont.len h.2.2.2
    have := h.2.1
    rw [List.length_cons]
    omega
theorem str_fst : ∀ d b, 2 ≤ d → (str d b).map (·.1) = (List.range (d / 2)).map fun k => b + k * 2
  | 0, _, h => by omega
  | 1, _, h => by omega
  | 2, b, _ => rfl
  | 3, b, _ => rfl
  | d + 4, b, _ => by
    have := str_fst (d + 2) (b + 2) (by omega)
    rw [str, List.map_cons, this, show (d + 4) / 2 = (d + 2) / 2 + 1 by omega, List.range_succ_eq_map, List.map_cons, List.map_map]
    have e : (List.map (fun k => b + 2 + k * 2) (List.range ((d + 2) / 2))) = List.map ((fun k => b + k * 2) ∘ Nat.succ) (List.range ((d + 2) / 2)) := List.map_congr_left fun k _ => by
      show b + 2 + k * 2 = b + (k + 1) * 2
      omega
    rw [e]
    simp
end M10

set_option Elab.async false
set_option linter.all false
set_option maxRecDepth 100000
namespace Loc
open PySem PySem.Spec PyProof.Rows L2
/-! ### l.extend(t), t a tuple -/
theorem ext_tup (l b : Addr) (xs ys : Array Value) (n n2 : Nat) (dd : Option Addr) (sl : Array (Option Value)) (h1 : ¬ (!xs.isEmpty && Builtin.List.listTooLong (xs.size + ys.size)) = true) (h2 : xs.size ≤ sizeLine) (h3 : xs.size + ys.size ≤ sizeLine + 1) :
    Meets (Builtin.«list.extend» ⟨[.ref l, .ref b], []⟩) (fun _ R s => s.heap.get? l = some { cls := .type "list", dict := none, data := .seq xs n, slots := #[] } ∧ s.heap.get? b = some { cls := .type "tuple", dict := dd, data := .seq ys n2, slots := sl } ∧
      R (.ok (.ret Value.none)) { s with heap := s.heap.update l (Obj.mapSeq fun x => x ++ ys), toks := s.toks }) := .of_wp fun prog w A R s h => by
  obtain ⟨hp, g, d, tk, os⟩ := s
  obtain ⟨hl, hb, h⟩ := h
  have f2 := sub_tuple_tuple
  have f3 := sub_list_list
  have f4 := sub_tuple_list
  have f5 := sub_list_tuple
  have z : (xs ++ ys).size ≤ sizeLine + 1 := by rw [Array.size_append]; exact h3
  wp_walk using (wpAny_updateSeq hl rfl (hz := h2) (_hz' := z)), wpAny_loadPart' hl, wpAny_loadPart' hb
  exact ⟨_, rfl, h⟩
section
variable {X : Cx}
def rExtendT (K : PySem.W.Frag) : V → List V → Hp → VK → Prop := fun x vs H Q => ∃ l b xs zs, x = .ref l ∧ vs = [.ref b] ∧ H l = some (.lst xs) ∧ SqT K H b zs ∧ xs.length + zs.length ≤ sizeLine ∧ Q .non (upd H l (.lst (xs ++ zs)))
theorem mt_extendT : MtM X "list.extend" (rExtendT X.K) := by
  intro pins s σ H x vs v us Q I rx rv h
  obtain ⟨l, b, xs, zs, rfl, rfl, hH, hB, hz, q⟩ := h
  cases rx
  obtain ⟨u, rfl, ru⟩ := rv.one
  cases ru
  obtain ⟨z, its, n, r, hl, e⟩ := I.lstM hH
  obtain ⟨its2, r2, p2, z2⟩ := I.tuple hB
  have hl2 := r2.length
  have hsz : its.toArray.size + its2.toArray.size ≤ sizeLine := by rw [List.size_toArray, List.size_toArray]; omega
  have hlong : ¬ (!its.toArray.isEmpty && Builtin.List.listTooLong (its.toArray.size + its2.toArray.size)) = true := by
    rw [notLongL hsz, Bool.and_false]
    exact Bool.false_ne_true
  obtain ⟨⟨cls, dd, data, sl⟩, ho, hc, n2, hd⟩ := id p2
  simp only at hc hd
  subst hc hd
  refine call_meets F.slot_list_extend ⟨_, e, rfl⟩ F.entry_list_extend (F.args_list_extend_2 _ _)
    (ext_tup l b its.toArray its2.toArray n n2 dd sl hlong (by rw [List.size_toArray]; omega) (by omega)) ⟨e, ho, ?_⟩
  refine ⟨.non, _, I.lset (its' := its ++ its2) hH e (by simp) (r.append r2) ?_, rfl, q⟩
  rw [List.length_append]
  omega
end
end Loc

set_option Elab.async false
set_option linter.all false
set_option maxRecDepth 100000
set_option maxHeartbeats 4000000
namespace Loc
open PySem PySem.Spec PyProof.Rows L2
theorem tuple_mul1 (l : Addr) (items : Array Value) (n : Nat) (dd : Option Addr) (sl : Array (Option Value)) (u : Tok) :
    Meets (Builtin.«tuple.__mul__» ⟨[.ref l, .int 1 u], []⟩) (fun _ R s => s.heap.get? l = some { cls := .type "tuple", dict := dd, data := .seq items n, slots := sl } ∧ R (.ok (.ret (Value.ref l))) s) :=
  .of_wp fun prog w A R s h => by
    obtain ⟨hp, g, d, tk, os⟩ := s
    obtain ⟨hl, h⟩ := h
    have f1 := AutoSeq1.idx_int
    wp_walk using wpAny_loadPart' hl
    exact ⟨_, rfl, h⟩
def rRepT1 (K : PySem.W.Frag) : R2 := fun x y H Q => ∃ l k xs, x = .ref l ∧ y = .int k ∧ SqT K H l xs ∧ xs ≠ [] ∧ 1 ≤ k ∧ k ≤ 1000 ∧ xs.length ≤ 1000 ∧ ∀ H' p, Same H H' → SqT K H' p (List.replicate k.toNat xs).flatten → Q (.ref p) H'
theorem op_repT1 {X : Cx} : OpR X (binaryOp .Mult) (rRepT1 X.K) := by
  intro pins s σ H x y v u Q I rx ry h
  obtain ⟨l, k, xs, rfl, rfl, hT, hne, h1, h2, hz, q⟩ := h
  by_cases k1 : k = 1
  · subst k1
    cases rx
    obtain ⟨t, rfl⟩ := ry
    obtain ⟨its, r, ⟨⟨cls, dd, data, sl⟩, ho, hc, n, hd⟩, hs⟩ := I.tuple hT
    simp only at hc hd
    subst hc hd
    refine wpAny_binaryOp_repeat_ref (T := "tuple") (U := "int") (by decide) ⟨_, ho, rfl⟩ (fun s' => typeIs_int s' 1 t) noFill_tuple_mul PySem.F.fills_int_mul PySem.F.slot_int_rmul repeat_tuple PySem.F.slot_int_index.lookup
      (call_meets PySem.F.slot_int_rmul (typeIs_int s 1 t) PySem.F.entry_int_rmul (PySem.F.args_int_rmul_2 _ _) (int_rmul_tuple 1 t l its.toArray n dd sl)
        ⟨ho, rfl, ⟨_, ho, rfl⟩, call_meets PySem.F.slot_tuple_mul ⟨_, ho, rfl⟩ PySem.F.entry_tuple_mul (PySem.F.args_tuple_mul_2 _ _) (tuple_mul1 l its.toArray n dd sl t) ⟨ho, ?_⟩⟩)
    refine ⟨.ref l, H, I, rfl, q H l (Same.refl H) ?_⟩
    rw [show (1 : Int).toNat = 1 from rfl]
    simpa using hT
  · exact op_repT pins s σ H _ _ v u Q I rx ry ⟨l, k, xs, rfl, rfl, hT, hne, by omega, h2, hz, fun p hp => q _ p (sameN hp) (.inl (.inl upd_same))⟩
end Loc

set_option Elab.async false
set_option linter.all false
set_option maxRecDepth 100000
set_option maxHeartbeats 4000000
namespace Loc
open PySem PySem.Spec PyProof.Rows L2
open AutoSeq1 (wpAny_loadPart')
/-! ### enumerate(t), t a tuple -/
theorem meets_enum_newT (l : Addr) (items : Array Value) (n : Nat) (dct : Option Addr) (sl : Array (Option Value)) :
    Meets (Builtin.«enumerate.__new__» ⟨[.type "enumerate", .ref l], []⟩) (fun _ R s => s.heap.get? l = some { cls := .type "tuple", dict := dct, data := .seq items n, slots := sl } ∧
      R (.ok (.ret (.ref (s.heap.push { cls := .type "tuple_iterator", data := .fields #[.ref l, .int 0 0] }).objs.size)))
        { s with heap := (s.heap.push { cls := .type "tuple_iterator", data := .fields #[.ref l, .int 0 0] }).push { cls := .type "enumerate", data := .fields #[.none, .bool false, .ref s.heap.objs.size, rawInt 0, .none, .none] } }) :=
  .of_wp fun prog w A R s h => by
    obtain ⟨hp, g, d, tk, os⟩ := s
    obtain ⟨hl, h⟩ := h
    have hsub := sub_enumerate
    have hL : Heap.IsTuple (Shared.heap ⟨hp, g, d, tk, os⟩) l items := ⟨_, hl, rfl, n, rfl⟩
    wp_walk using wpAny_loadPart' hl
    refine wpAny_stack_any fun st => wpAny_pure ?_
    split
    · rename_i c _ _ _ _ _
      cases (c == Value.type "enumerate")
      · wp_walk using wpAny_loadPart' hl, wpAny_pyIter_tuple hL
        exact ⟨_, rfl, h⟩
      · wp_walk using wpAny_loadPart' hl, wpAny_pyIter_tuple hL
        exact ⟨_, rfl, h⟩
    · wp_walk using wpAny_loadPart' hl, wpAny_pyIter_tuple hL
      exact ⟨_, rfl, h⟩
section
variable {prog : Program} {w : World} {A : Around} {E : Value → Shared → Prop} {s : Shared}
theorem call_enum_tup {l : Addr} {items : Array Value} {Q : Value → Shared → Prop} (hL : s.heap.IsTuple l items)
    (h : ∀ h', IsEnum h' (s.heap.objs.size + 1) s.heap.objs.size 0 .none → h'.IsTupleIter s.heap.objs.size l 0 → h'.objs.size = s.heap.objs.size + 2 →
      (∀ b o, s.heap.get? b = some o → h'.get? b = some o) → Q (.ref (s.heap.objs.size + 1)) { s with heap := h' }) :
    wpAny (model prog w) A (call (.type "enumerate") [.ref l]) Q E s := by
  obtain ⟨⟨c, dct, dt, sl⟩, hl, hc, n, hd⟩ := hL
  replace hc : c = .type "tuple" := hc
  replace hd : dt = .seq items n := hd
  subst hc hd
  refine callType_new PySem.F.called_enumerate (by decide) (PySem.F.typeCall_enumerate_1 _) (PySem.F.newCall_enumerate_1 _) (fun obj => PySem.F.args_object_init_2 obj _) PySem.F.entry_enumerate_new
    (meets_enum_newT l items n dct sl) ⟨hl, ?_⟩
  have hz : (s.heap.push { cls := .type "tuple_iterator", data := .fields #[.ref l, .int 0 0] }).objs.size = s.heap.objs.size + 1 := Heap.size_push ..
  show _ ∧ _
  rw [hz]
  have he : IsEnum ((s.heap.push { cls := .type "tuple_iterator", data := .fields #[.ref l, .int 0 0] }).push
      { cls := .type "enumerate", data := .fields #[.none, .bool false, .ref s.heap.objs.size, rawInt 0, .none, .none] }) (s.heap.objs.size + 1) s.heap.objs.size 0 .none := by
    have := Heap.get?_push_size (s.heap.push { cls := .type "tuple_iterator", data := .fields #[.ref l, .int 0 0] })
      (o := { cls := .type "enumerate", data := .fields #[.none, .bool false, .ref s.heap.objs.size, rawInt 0, .none, .none] }) rfl
    rw [hz] at this; exact this
  refine ⟨⟨_, he, rfl⟩, h _ he ⟨_, Heap.get?_push_of_some _ (Heap.get?_push_size _ rfl), rfl, rfl⟩ (by rw [Heap.size_push, hz]) fun b o x => Heap.get?_push_of_some _ (Heap.get?_push_of_some _ x)⟩
end
theorem enumT_end {prog : Program} {w : World} {A : Around} {E : Value → Shared → Prop} {s : Shared} {e it l : Addr} {i : Nat} {items : Array Value} {old : Value} {Q : Option Value → Shared → Prop} (hh : A.handled = none)
    (he : IsEnum s.heap e it i old) (hit : s.heap.IsTupleIter it l i) (hl : s.heap.IsTuple l items) (hx : items[i]? = none)
    (hQ : ∀ h', Heap.ExtBut it s.heap h' → Q none { s with heap := h' }) : wpAny (model prog w) A (pyNext (.ref e)) Q E s := by
  have hT : s.TypeIs (.ref e) "enumerate" := ⟨_, he, rfl⟩
  unfold pyNext
  refine wpAny_bind (wpAny_attempt (wpAny_callSpecial?_slot (name := Str.ofString "__next__") hT PySem.F.slot_enumerate_next
    (wpAny_call_entry PySem.F.slot_enumerate_next hT PySem.F.entry_enumerate_next ?_ (PySem.F.args_enumerate_next_1 _))))
  show wpAny _ _ (field (.ref e) 2 >>= _) _ _ _
  refine wpAny_bind (wpAny_field he rfl (x := .ref it) rfl ?_)
  refine wpAny_bind (wpAny_nextOf_tuple_end hh hit hl hx fun h' x he' hx' => ?_)
  obtain ⟨o, ho, hc⟩ := hx'
  refine wpAny_bind (wpAny_isInstance (T := "StopIteration") (b := true) ⟨o, ho, hc⟩ isSubtype_stop ?_)
  exact wpAny_pure (hQ _ he')
/-- the tuple at a, each item in a new pair -/
def IteT (K : PySem.W.Frag) (a : Addr) : It :=
  ⟨fun i H => ∃ (xs : List V) (x : V), SqT K H a xs ∧ xs[i]? = some x, fun i H v H' => ∃ T x, v = .ref T ∧ H T = none ∧ H' = upd H T (.tup [.int (i : Nat), x]) ∧ ∀ xs, SqT K H a xs → xs[i]? = some x, fun i H => ∃ xs : List V, SqT K H a xs ∧ xs.length ≤ i⟩
theorem turn_enumT {P : Program} {w : World} {K : PySem.W.Frag} {elts : List Expr} {kk : Nat} {tpos : Pos} (a e it : Addr) :
    Turn P w K (.Tuple elts kk tpos) (IteT K a) [e, it] e (fun i h => (∃ old, IsEnum h e it ((i : Nat) : Int) old) ∧ h.IsTupleIter it a i ∧ e ≠ it ∧ a ≠ it ∧ a ≠ e) where
  mem := by simp
  obj := fun i h st b hb => by
    obtain ⟨⟨old, he⟩, ⟨o, ho, hc, hd⟩, _⟩ := st
    have e' : b = e ∨ b = it := by simpa using hb
    rcases e' with z | z
    · rw [z]; exact ⟨_, he, fun v q => nomatch q⟩
    · rw [z]; exact ⟨o, ho, fun v q => by rw [hd] at q; cases q⟩
  keep := fun i h h' st k => let ⟨⟨old, he⟩, hi, hne⟩ := st; ⟨⟨old, k e (by simp) _ he⟩, hi.at fun o q => k it (by simp) o q, hne⟩
  item := by
    intro X hP hw hK hc i pins s σ H E I hf st hg
    subst hP hw hK
    obtain ⟨⟨old, he⟩, hit, hne, hai, hae⟩ := st
    obtain ⟨xs, x, hq, hx⟩ := hg
    obtain ⟨its, rv, p, hz⟩ := I.tuple hq
    obtain ⟨u, hu, ru⟩ := rv.get hx
    have hel : e < s.heap.objs.size := Heap.lt_size he
    have hil : it < s.heap.objs.size := by obtain ⟨_, q, _⟩ := hit; exact Heap.lt_size q
    have pT : s.heap.IsTuple a its.toArray := p
    have hlt : i < its.toArray.size := by
      have := (List.getElem?_eq_some_iff.mp hu).1
      simpa using this
    refine wpAny_pyNext_enum_itemD (Draws.tuple (A := X.A.in1) (by first | exact I.ok.hd hc | exact (I.ok.hd hc)) it a hai its.toArray) he ⟨hit, pT⟩ hlt hne (by simp [hne, hae.symm]) fun x' h' tk hx' ho hst' hT hsz hk => ?_
    have ex : x' = u := by
      have : its.toArray[i]? = some u := by simpa using hu
      exact Option.some.inj (hx'.symm.trans this)
    subst ex
    refine ⟨_, rfl, wpAny_letOwnedTupleGo_enum (s := { s with heap := h', toks := tk + 1 }) ho fun h'' he' sb => ?_⟩
    have hT2 : h''.get? s.heap.objs.size = some { cls := .type "tuple", data := .seq #[.int i tk, x'] } := (sb.2 _ (Nat.ne_of_gt hel)).trans hT
    have new : ObjOk X.prog X.w (upd H s.heap.objs.size (.tup [.int (i : Nat), x])) h'' s.heap.objs.size (.tup [.int (i : Nat), x]) :=
      ⟨by show 2 ≤ sizeLine; decide, [.int i tk, x'], .cons ⟨_, rfl⟩ (.cons ru .nil), ⟨_, hT2, rfl, _, rfl⟩⟩
    have I1 : Inv X pins σ (upd H s.heap.objs.size (.tup [.int (i : Nat), x])) { s with heap := h'', toks := tk + 1 } :=
      I.turnedNew (ch := [e, it]) (fun b ob hb q => (sb.2 b (fun z => hb (by simp [z]))).trans (hk b ob (fun z => hb (by simp [z])) (fun z => hb (by simp [z])) q)) hf (Nat.le_refl _) new
    refine ⟨.ref s.heap.objs.size, _, I1, rfl, ⟨_, x, rfl, I.hok.fresh (Nat.le_refl _), rfl, fun ys hy => by rw [I.tuple_inj hy hq]; exact hx⟩, ⟨⟨x', ?_⟩, hst'.1.at fun o q => (sb.2 it (Ne.symm hne)).trans q, hne, hai, hae⟩, fun b hb => ?_⟩
    · have e1 : ((i + 1 : Nat) : Int) = (i : Int) + 1 := by omega
      rw [e1]; exact he'
    · have hb' : b < s.heap.objs.size := by
        have e' : b = e ∨ b = it := by simpa using hb
        rcases e' with z | z
        · rw [z]; exact hel
        · rw [z]; exact hil
      rw [upd_ne (Nat.ne_of_lt hb')]
      exact (hf b hb).1
  done := by
    intro X hP hw hK hc i pins s σ H E I hf st hg
    subst hP hw hK
    obtain ⟨⟨old, he⟩, hit, hne, hai, hae⟩ := st
    obtain ⟨xs, hq, hx⟩ := hg
    obtain ⟨its, rv, p, hz⟩ := I.tuple hq
    obtain ⟨f0, f1, f2, f3, f4, f5⟩ := hf it (by simp)
    have hl := rv.length
    have pT : s.heap.IsTuple a its.toArray := p
    exact enumT_end (I.ok.hd hc) he hit pT (by simp; omega) fun h' eb => ⟨rfl, I.turned (t' := s.toks) (fun b o hb q => eb b o hb q) f0 f1 f3 f4 f5⟩
  self := fun A i s Q E st h => let ⟨⟨_, he⟩, _⟩ := st; wpAny_pyIter_enum he h
def iEnumT (K : PySem.W.Frag) (ta : TA) : TI := fun σ H R => ta σ H fun vs H1 => ∃ a xs, vs = [.ref a] ∧ SqT K H1 a xs ∧ R (IteT K a) H1
theorem pi_enumT {X : Cx} {e : Expr} {ta : TA} {p pos tpos : Pos} {elts : List Expr} {kk : Nat} (hg : Gl X "enumerate") (hm : X.mg "enumerate" = none) (ha : PA X [e] ta) (hs : starEach [e] X.env = [(false, eval e X.env)] := by rfl) :
    PI X (.Tuple elts kk tpos) (.Call (.Name "enumerate" p) [e] [] pos) (iEnumT X.K ta) := by
  refine ⟨fun pins s σ H R I h => ?_⟩
  refine Call_ (ld_blt I hg hm boot_enumerate (PyProof.Rows.callWith_type1 (thn (ha.run pos pins s σ H _ I h) fun us s1 ⟨vs, H1, I1, r1, q1⟩ => ?_) hs rfl))
  obtain ⟨a, xs, ex, hq, q⟩ := q1
  subst ex
  cases r1 with
  | cons r rr =>
    cases rr
    cases r
    obtain ⟨its, rv, p', hz⟩ := I1.tuple hq
    have pT : s1.heap.IsTuple a its.toArray := p'
    have al : a < s1.heap.objs.size := by obtain ⟨_, q, _⟩ := pT; exact Heap.lt_size q
    refine call_enum_tup pT fun h' he hit hsz hk => wpAny_pyIter_enum he ?_
    have I2 : Inv X pins σ H1 { s1 with heap := h' } := I1.kept (t' := s1.toks) hk
    refine ⟨s1.heap.objs.size + 1, [s1.heap.objs.size + 1, s1.heap.objs.size], _, _, H1, rfl, I2, turn_enumT a (s1.heap.objs.size + 1) s1.heap.objs.size, ⟨⟨.none, he⟩, hit, Nat.succ_ne_self _, Nat.ne_of_lt al, Nat.ne_of_lt (Nat.lt_succ_of_lt al)⟩, fun b hb => ?_, q⟩
    have e' : b = s1.heap.objs.size + 1 ∨ b = s1.heap.objs.size := by simpa using hb
    have hle : s1.heap.objs.size ≤ b := by
      rcases e' with z | z
      · rw [z]; exact Nat.le_add_right _ _
      · rw [z]; exact Nat.le_refl _
    exact I1.fpOk hle (I1.hok.fresh hle)
/-- for i, x in enumerate(t), t a tuple that stays -/
theorem for_enumT {K : PySem.W.Frag} {a : Addr} {xs : List V} {g : TG} {tb : TS} {D : Ends} {σ : L2.St} {H : Hp} (Pv : Nat → L2.St → Hp → Prop) (h0 : Pv 0 σ H) (hl : ∀ i σ H, Pv i σ H → SqT K H a xs)
    (hs : ∀ i x T σ H1, xs[i]? = some x → Pv i σ H1 → H1 T = none → g (.ref T) σ (upd H1 T (.tup [.int (i : Nat), x])) fun σ2 H2 => tb { nx := Pv (i + 1), rt := D.rt, bk := D.nx, ct := Pv (i + 1) } σ2 H2)
    (hd : ∀ i σ H', Pv i σ H' → xs.length ≤ i → D.nx σ H') :
    ∃ W : Nat → Nat → L2.St → Hp → Prop, (∃ m, W 0 m σ H) ∧ ∀ i m σ H, W i m σ H →
      ((IteT K a).stop i H ∧ D.nx σ H) ∨ ((IteT K a).go i H ∧ ∃ N : L2.St → Hp → Prop, (∀ σ' H', N σ' H' → ∃ m', m' < m ∧ W (i + 1) m' σ' H') ∧ ∀ x H', (IteT K a).yld i H x H' → g x σ H' fun σ2 H2 => tb { nx := N, rt := D.rt, bk := D.nx, ct := N } σ2 H2) := by
  refine ⟨fun i m σ H => m = xs.length - i ∧ Pv i σ H, ⟨_, rfl, h0⟩, ?_⟩
  rintro i m σ H ⟨rfl, p⟩
  have k1 := hl i σ H p
  by_cases c : i < xs.length
  · obtain ⟨x, gx⟩ := get_of c
    refine .inr ⟨⟨xs, x, k1, gx⟩, Pv (i + 1), fun σ' H' p' => ⟨xs.length - (i + 1), by omega, rfl, p'⟩, fun z H' hy => ?_⟩
    obtain ⟨T, x', rfl, hT, rfl, f1⟩ := hy
    have ex : x' = x := Option.some.inj ((f1 _ k1).symm.trans gx)
    subst ex
    exact hs i _ T σ H gx p hT
  · exact .inl ⟨⟨xs, k1, by omega⟩, hd i σ H p (by omega)⟩
end Loc

set_option Elab.async false
set_option linter.all false
set_option maxRecDepth 100000
namespace Loc
open PySem PySem.Spec PyProof.Rows L2
/-! ### a call of a def that is entered while no repr is under way -/
section
variable {X : Cx} {CX : CXT} {k : Nat} {f : Addr} {fd : FuncData} {ps : List Str} {sp : Sp} {dvs : List V} {ds : List Value} {E : XK} {x : Str} {p pos : Pos} {e : Expr} {es : List Expr} {t : TA}
theorem run_fnG {pins : List (Addr × Obj)} {σ : L2.St} {H : Hp} {s : Shared} {Q : VK} {us : List Value} {vs : List V} (F : FnG X.prog X.w X.K X.mg X.base CX k f fd ps sp) (hg : X.A.guards = some []) (hr : Room k X.A) (hb : Binds X.K fd ps ds) (hd : Vals dvs ds) (hx : Passes CX X E)
    (I : Inv X pins σ H s) (r : Vals vs us) (h : sp (vs ++ dvs) H Q E) : wpAny (model X.prog X.w) X.A (call (.ref f) us) (EP X pins σ Q) X.xe s := by
  have r2 : Vals (vs ++ dvs) (us ++ ds) := r.append hd
  have hl : (us ++ ds).length = ps.length := by rw [← r2.length]; exact F.cnt h
  refine wpAny_call (codeAny_mono (F.go (out := X.stack) (ar := ⟨us, []⟩) hg hr I.env0 (hb s us I.kIn hl) r2 h) fun r s' hq => ?_)
  cases r with
  | error e => exact hx pins σ H s e s' I hq
  | ok fl =>
    cases fl with
    | ret u => exact I.after hq
    | next => exact False.elim hq
    | brk => exact False.elim hq
    | cont => exact False.elim hq
theorem pe_callG (F : FnG X.prog X.w X.K X.mg X.base CX k f fd ps sp) (gg : X.A.guards = some []) (hr : Room k X.A) (hg : Gl X x) (hm : X.mg x = some (.ref f)) (hk : PySem.W.keepIn X.K (.ref f) = true) (hb : Binds X.K fd ps ds) (hd : Vals dvs ds) (hx : Passes CX X E)
    (ha : PA X (e :: es) t) (hdb : (x == ("__debug__" : Str)) = false := by decide) (he : starEach (e :: es) X.env = (false, eval e X.env) :: starEach es X.env := by rfl) (hpl : (backTo pos (starEach es X.env)).any (·.1) = false := by rfl) :
    PE X (.Call (.Name x p) (e :: es) [] pos) (tCall sp dvs E t) := by
  refine ⟨fun pins s σ H Q I h => ?_⟩
  refine wpAny_Call_Name_kw (ld_glob I hg hm ?_ hdb)
  refine PySem.W.callWith_K (h₀ := X.base) I.ok.mod.kin hk (thn (ha.run pos pins s σ H _ I h) fun us s1 ⟨vs, H1, I1, r, q⟩ => ⟨I1.kIn, ?_⟩) he hpl
  exact run_fnG F gg hr hb hd hx I1 r q
end
/-! ### [.. for i, x in enumerate(xs)], xs a list that stays -/
theorem lc_enum {K : PySem.W.Frag} {a : Addr} {xs : List V} {g : TG} {tt : TT} {te : TE} {vs : List Nat} {σ : L2.St} {H1 : Hp} {D : Addr} {Qd : Hp → Prop} (Pv : Nat → Hp → Prop)
    (h0 : Pv 0 (upd H1 D (.lst []))) (hl : ∀ i H, Pv i H → SqL K H a xs)
    (hs : ∀ i x T H, xs[i]? = some x → Pv i H → H T = none → g (.ref T) (wipe σ vs) (upd H T (.tup [.int (i : Nat), x])) fun σ2 H2 => wipe σ2 vs = wipe σ vs ∧ tt σ2 H2 fun k H3 =>
      if k = true then te σ2 H3 fun z H4 => ∃ acc, H4 D = some (.lst acc) ∧ acc.length < sizeLine ∧ Pv (i + 1) (upd H4 D (.lst (acc ++ [z]))) else Pv (i + 1) H3)
    (hd : ∀ i H, Pv i H → xs.length ≤ i → Qd H) :
    ∃ W : Nat → Nat → Hp → Prop, (∃ m, W 0 m (upd H1 D (.lst []))) ∧ ∀ i m H, W i m H →
      ((Ite K a).stop i H ∧ Qd H) ∨ ((Ite K a).go i H ∧ ∃ Nx : Hp → Prop, (∀ H', Nx H' → ∃ m', m' < m ∧ W (i + 1) m' H') ∧ ∀ x H', (Ite K a).yld i H x H' → g x (wipe σ vs) H' fun σ2 H2 => wipe σ2 vs = wipe σ vs ∧ tt σ2 H2 fun k H3 =>
        if k = true then te σ2 H3 fun y H4 => ∃ acc, H4 D = some (.lst acc) ∧ acc.length < sizeLine ∧ Nx (upd H4 D (.lst (acc ++ [y]))) else Nx H3) := by
  refine ⟨fun i m H => m = xs.length - i ∧ Pv i H, ⟨_, rfl, h0⟩, ?_⟩
  rintro i m H ⟨rfl, p⟩
  have k1 := hl i H p
  by_cases c : i < xs.length
  · obtain ⟨x, gx⟩ := get_of c
    refine .inr ⟨⟨xs, x, k1, gx⟩, Pv (i + 1), fun H' p' => ⟨xs.length - (i + 1), by omega, rfl, p'⟩, fun z H' hy => ?_⟩
    obtain ⟨T, x', rfl, hT, rfl, f1⟩ := hy
    have ex : x' = x := Option.some.inj ((f1 _ k1).symm.trans gx)
    subst ex
    exact hs i _ T H gx p hT
  · exact .inl ⟨⟨xs, k1, by omega⟩, hd i H p (by omega)⟩
/-- a pot that stays but for others -/
theorem Pot.same {H H' : Hp} {p : Addr} {c : Nat} (h : Pot H p c) (e : Same H H') : Pot H' p c := let ⟨o, ho, po⟩ := h; ⟨o, e _ _ ho, po⟩
theorem dec_tt {α : Type} [DecidableEq α] (a : α) : decide (a = a) = true := decide_eq_true rfl
/-! ### calls by names alone -/
def kG {α : Type} (us ws : List α) : List α := match us with
  | [] => ws
  | _ => []
section
variable {X : Cx} {CX : CXT} {k : Nat} {f : Addr} {fd : FuncData} {ps ks : List Str} {sp : Sp} {E : XK} {x : Str} {p pos : Pos} {kws : List Keyword} {tk : TA} {g : List Value → List Value → List Value} {gV : List V → List V → List V}
theorem pe_callK0 (F : FnOk X.prog X.w X.K X.mg X.base CX k f fd ps sp) (hr : Room k X.A) (hg : Gl X x) (hm : X.mg x = some (.ref f)) (hk : PySem.W.keepIn X.K (.ref f) = true) (hb : KBinds X.K fd ps ks g gV) (hx : Passes CX X E)
    (hkw : PK X kws tk) (hall : (backToKw pos (keywordEach kws X.env)).all (·.1.isSome) = true := by rfl) (hks : (backToKw pos (keywordEach kws X.env)).filterMap (·.1) = ks := by rfl)
    (hdb : (x == ("__debug__" : Str)) = false := by decide) (hpl : ((backTo pos (starEach [] X.env)).any (·.1) || (backToKw pos (keywordEach kws X.env)).any (·.1.isNone)) = false := by rfl) :
    PE X (.Call (.Name x p) [] kws pos) (tCallK sp gV E tNil tk) := by
  refine ⟨fun pins s σ H Q I h => ?_⟩
  refine wpAny_Call_Name_kw (ld_glob I hg hm ?_ hdb)
  refine PySem.W.callWith_KW0 (h₀ := X.base) I.ok.mod.kin hk hall (thn (hkw.run pos pins s σ H _ I h) fun ws s2 ⟨zs, H2, I2, rz, q2⟩ => ⟨I2.kIn, ?_⟩) hpl
  rw [hks]
  exact run_fnk (us := []) (vs := []) F hr hb hx I2 .nil rz q2
end
theorem fun_kbinds {K : PySem.W.Frag} {x qual : Str} {st : Stmt} {f : Addr} {fd : FuncData} {ps : List Str} (F : Fun K x qual st f fd) (hp : 0 < ps.length)
    (h : ∀ (kV doc pm : Value) (an : Option Addr) (cdv ct : Value) (ws : List Value), ws.length = ps.length → bindArgs (PySem.W.fnOf x qual (defArgs st) (defBody st) (defScope st) .none kV doc pm an cdv ct) ⟨[], ps.zip ws⟩ = pure (ps.zip ws)) : KBinds K fd ps ps kG kG := by
  obtain ⟨oc, od, kV, doc, pm, an, cdv, ct, osl, rfl, lk, hcd⟩ := F.ex
  refine ⟨fun s us ws _ hl => ?_, fun r rz => ?_⟩
  · cases us with
    | nil => exact .of_eq (h kV doc pm an cdv ct ws hl)
    | cons u us =>
      have hl : (0 : Nat) = ps.length := hl
      omega
  · cases r with
    | nil => exact rz
    | cons _ _ => exact .nil
section
variable {K : PySem.W.Frag}
theorem shown_sumL (ns : List Nat) (h : ∀ n ∈ ns, n < 10 ^ 70) : (PyData.shown (.list ((ns.map fun n : Nat => (n : Int)).map PyData.int))).length ≤ 72 * ns.length + 10 := by
  have t := listText_len_le (PyData.shownAll ((ns.map fun n : Nat => (n : Int)).map PyData.int))
  have s := shown_sum ns h
  rw [PyData.shownAll_length, List.length_map, List.length_map] at t
  show (listText _).length ≤ _
  omega
/-- what repr asks of a list of small numbers -/
theorem rep_intsL {H : Hp} {a : Addr} {ns : List Nat} {Q : VK} (hS : SqL K H a (ns.map fun n : Nat => V.int (n : Int))) (h : ∀ n ∈ ns, n < 10 ^ 70) (hl : ns.length ≤ 100000)
    (q : Q (.str (PyData.shown (.list ((ns.map fun n : Nat => (n : Int)).map PyData.int)))) H) : rRep K [.ref a] H Q := by
  have dp := depth_ints (ns.map fun n : Nat => (n : Int))
  have e : (ns.map fun n : Nat => V.int (n : Int)) = (ns.map fun n : Nat => (n : Int)).map V.int := by
    rw [List.map_map]
    rfl
  rw [e] at hS
  refine ⟨a, _, rfl, .lst hS (DpAll.ints _), ?_, ?_, ?_, ?_, q⟩
  · show PyData.showableAll _ = true
    refine PyData.showableAll_ints _ fun n hn => ?_
    obtain ⟨m, hm, rfl⟩ := List.mem_map.mp hn
    exact log_small (h m hm)
  · show PyData.hasDictAll _ = false
    exact noDict_ints _
  · simp only [PyData.depth]
    omega
  · have := shown_sumL ns h
    rw [sizeLine_eq]
    omega
end
theorem rep_getL {α : Type} (l : List α) : ∀ (c i : Nat), i < l.length * c → (List.replicate c l).flatten[i]? = l[i % l.length]?
  | 0, i, h => by omega
  | c + 1, i, h => by
    rw [List.replicate_succ, List.flatten_cons]
    by_cases z : i < l.length
    · rw [List.getElem?_append_left z, Nat.mod_eq_of_lt z]
    · rw [List.getElem?_append_right (by omega), rep_getL l c (i - l.length) (by rw [Nat.mul_succ] at h; omega)]
      rw [Nat.mod_eq_sub_mod (show l.length ≤ i by omega)]
theorem rep_lenL {α : Type} (l : List α) : ∀ c : Nat, (List.replicate c l).flatten.length = l.length * c
  | 0 => rfl
  | c + 1 => by rw [List.replicate_succ, List.flatten_cons, List.length_append, rep_lenL l c, Nat.mul_succ, Nat.add_comm]
/-! ### pairs as data -/
theorem eqv_pairs : ∀ ps : List (Nd × Nat), PyData.eqvAll (ps.map pdat) (ps.map pdat) = true
  | [] => by simp [PyData.eqvAll]
  | p :: r => by
    have e1 : PyData.eqv (pdat p) (pdat p) = true := by
      unfold pdat
      simp [PyData.eqv, PyData.eqvAll, eqv_yes]
    simp only [List.map_cons, PyData.eqvAll, e1, eqv_pairs r, Bool.and_self]
theorem eqv_pairsT (ps : List (Nd × Nat)) : PyData.eqv (.tuple (ps.map pdat)) (.tuple (ps.map pdat)) = true := by
  unfold PyData.eqv
  exact eqv_pairs _
theorem eqv_pairsL (ps : List (Nd × Nat)) : PyData.eqv (.list (ps.map pdat)) (.list (ps.map pdat)) = true := by
  unfold PyData.eqv
  exact eqv_pairs _
theorem shaped_prsTT {l : Nat} {ps : List (Nd × Nat)} (h : ∀ p ∈ ps, Ok p.1 l) (hl : l ≤ 20) : SeqAt.shaped (.tuple (ps.map pdat)) = true := by
  obtain ⟨h1, h2⟩ := canLay_prs l ps h
  unfold SeqAt.shaped
  rw [Bool.and_eq_true]
  exact ⟨by unfold PyData.canLay0; exact h1, decide_eq_true (by unfold PyData.depth; omega)⟩
/-- pairs of elements and small counts -/
def ElPairs (ps : List (Nd × Nat)) : Prop := ∀ p ∈ ps, (∃ k : Nat, p.1 = .el k ∧ k ≤ 10 ^ 9) ∧ p.2 < 10 ^ 70
theorem shown_pdat {p : Nd × Nat} (h : (∃ k : Nat, p.1 = .el k ∧ k ≤ 10 ^ 9) ∧ p.2 < 10 ^ 70) : (PyData.shown (pdat p)).length ≤ 147 ∧ PyData.showable (pdat p) = true ∧ PyData.hasDict (pdat p) = false ∧ PyData.depth (pdat p) ≤ 2 := by
  obtain ⟨n, c⟩ := p
  obtain ⟨⟨k, e, hk⟩, hc⟩ := h
  have e : n = .el k := e
  subst e
  have hk7 : k < 10 ^ 70 := Nat.lt_of_le_of_lt hk (by decide +kernel)
  refine ⟨?_, ?_, ?_, ?_⟩
  · show (tupleText (PyData.shownAll [.int (k : Int), .int (c : Int)])).length ≤ 147
    have t := tupleText_len_le (PyData.shownAll [.int (k : Int), .int (c : Int)])
    have h1 := shown_len hk7
    have h2 := shown_len (n := c) hc
    simp only [PyData.shownAll, List.map_cons, List.map_nil, List.sum_cons, List.sum_nil, List.length_cons, List.length_nil] at t
    simp only [PyData.shownAll]
    omega
  · show PyData.showableAll (([k, c].map fun n : Nat => (n : Int)).map PyData.int) = true
    refine PyData.showableAll_ints _ fun n hn => ?_
    obtain ⟨m, hm, rfl⟩ := List.mem_map.mp hn
    simp only [List.mem_cons, List.not_mem_nil, or_false] at hm
    rcases hm with rfl | rfl
    · exact log_small hk7
    · exact log_small hc
  · show PyData.hasDictAll (([k, c].map fun n : Nat => (n : Int)).map PyData.int) = false
    exact noDict_ints _
  · have := depth_ints ([k, c].map fun n : Nat => (n : Int))
    show PyData.depth (.tuple (([k, c].map fun n : Nat => (n : Int)).map PyData.int)) ≤ 2
    simp only [PyData.depth]
    omega
theorem shown_pdats : ∀ ps : List (Nd × Nat), ElPairs ps → ((PyData.shownAll (ps.map pdat)).map (·.length)).sum ≤ 147 * ps.length ∧ PyData.showableAll (ps.map pdat) = true ∧ PyData.hasDictAll (ps.map pdat) = false ∧ PyData.depthAll (ps.map pdat) ≤ 2
  | [], _ => by simp [PyData.shownAll, PyData.showableAll, PyData.hasDictAll, PyData.depthAll]
  | p :: r, h => by
    obtain ⟨a1, a2, a3, a4⟩ := shown_pdat (h p List.mem_cons_self)
    obtain ⟨b1, b2, b3, b4⟩ := shown_pdats r fun q hq => h q (List.mem_cons_of_mem _ hq)
    simp only [List.map_cons, PyData.shownAll, PyData.showableAll, PyData.hasDictAll, PyData.depthAll, List.sum_cons, List.length_cons, a2, b2, a3, b3, Bool.and_self, Bool.or_self]
    refine ⟨by omega, trivial, trivial, by omega⟩
theorem shown_prsT {ps : List (Nd × Nat)} (h : ElPairs ps) : (PyData.shown (.tuple (ps.map pdat))).length ≤ 149 * ps.length + 3 ∧ PyData.showable (.tuple (ps.map pdat)) = true ∧ PyData.hasDict (.tuple (ps.map pdat)) = false ∧ PyData.depth (.tuple (ps.map pdat)) ≤ 3 := by
  obtain ⟨b1, b2, b3, b4⟩ := shown_pdats ps h
  refine ⟨?_, b2, b3, ?_⟩
  · show (tupleText _).length ≤ _
    have t := tupleText_len_le (PyData.shownAll (ps.map pdat))
    rw [PyData.shownAll_length, List.length_map] at t
    omega
  · simp only [PyData.depth]
    omega
section
variable {K : PySem.W.Frag}
/-- repr of pairs -/
theorem rep_prsT {H : Hp} {a : Addr} {us : List V} {ps : List (Nd × Nat)} {Q : VK} (hS : SqT K H a us) (hn : PrsV K H us ps) (h : ElPairs ps) (hl : ps.length ≤ 1000) (q : Q (.str (PyData.shown (.tuple (ps.map pdat)))) H) : rRep K [.ref a] H Q := by
  obtain ⟨b1, b2, b3, b4⟩ := shown_prsT h
  refine ⟨a, _, rfl, .tup hS hn, b2, b3, by omega, ?_, q⟩
  rw [sizeLine_eq]
  omega
/-- repr of a list of two tuples of pairs -/
theorem rep_two {H : Hp} {a b c : Addr} {us ws : List V} {ps : List (Nd × Nat)} {Q : VK} (hL : SqL K H a [.ref b, .ref c]) (hb : SqT K H b us) (hc : SqT K H c ws) (hn : PrsV K H us ps) (hm : PrsV K H ws ps) (h : ElPairs ps) (hl : ps.length ≤ 1000)
    (q : Q (.str (PyData.shown (.list [.tuple (ps.map pdat), .tuple (ps.map pdat)]))) H) : rRep K [.ref a] H Q := by
  obtain ⟨b1, b2, b3, b4⟩ := shown_prsT h
  refine ⟨a, _, rfl, .lst hL (.cons (.tup hb hn) (.cons (.tup hc hm) .nil)), ?_, ?_, ?_, ?_, q⟩
  · simp only [PyData.showable, PyData.showableAll]
    simp only [PyData.showable] at b2
    rw [b2]
    rfl
  · simp only [PyData.hasDict, PyData.hasDictAll]
    simp only [PyData.hasDict] at b3
    rw [b3]
    rfl
  · simp only [PyData.depth, PyData.depthAll]
    simp only [PyData.depth] at b4
    omega
  · show (listText (PyData.shownAll [.tuple (ps.map pdat), .tuple (ps.map pdat)])).length ≤ sizeLine
    have t := listText_len_le (PyData.shownAll [.tuple (ps.map pdat), .tuple (ps.map pdat)])
    simp only [PyData.shownAll, List.map_cons, List.map_nil, List.sum_cons, List.sum_nil, List.length_cons, List.length_nil] at t
    simp only [PyData.shownAll]
    rw [sizeLine_eq]
    omega
end
/-! ### repr of a tuple, an int, None -/
def rRepV (K : PySem.W.Frag) : List V → Hp → VK → Prop := fun xs H Q => rRepA K xs H Q ∨ (xs = [.non] ∧ Q (.str "None") H)
theorem call_repV {X : Cx} {k : Nat} (hr : Room k X.A) (hg : X.A.guards = some []) : CallR X (.builtin "repr") (rRepV X.K) := by
  intro pins s σ H xs us Q I r h
  rcases h with h | ⟨rfl, q⟩
  · exact call_repA hr hg pins s σ H xs us Q I r h
  · obtain ⟨u, rfl, ru⟩ := vals1 r
    cases ru
    exact PySem.P.repr_of_none ⟨.str _, H, I.tok _, ⟨_, rfl⟩, q⟩
theorem sum_ints (l : List Nat) : (l.map fun n : Nat => (n : Int)).sum = ((l.sum : Nat) : Int) := by
  induction l with
  | nil => rfl
  | cons a r ih => rw [List.map_cons, List.sum_cons, List.sum_cons, ih, Int.natCast_add]
open RZ
/-! ### for x, y in zip(t, u), t and u tuples of any lengths -/
theorem for_zipU {K : PySem.W.Frag} {a b : Addr} {xs ys : List V} {g : TG} {tb : TS} {D : Ends} {σ : L2.St} {H : Hp} (Pv : Nat → L2.St → Hp → Prop) (h0 : Pv 0 σ H) (hq : ∀ i σ H, Pv i σ H → SqT K H a xs ∧ SqT K H b ys)
    (hs : ∀ (i : Nat) (x y : V) (T : Addr) (σ : L2.St) (H : Hp), xs[i]? = some x → ys[i]? = some y → Pv i σ H → H T = none → g (.ref T) σ (upd H T (.tup [x, y])) fun σ2 H2 => tb { D with nx := Pv (i + 1), ct := Pv (i + 1), bk := D.nx } σ2 H2)
    (hd : ∀ i σ H, Pv i σ H → (xs.length ≤ i ∨ ys.length ≤ i) → D.nx σ H) :
    ∃ W : Nat → Nat → L2.St → Hp → Prop, (∃ m, W 0 m σ H) ∧ ∀ i m σ H, W i m σ H →
      ((ItzT K a b).stop i H ∧ D.nx σ H) ∨ ((ItzT K a b).go i H ∧ ∃ N : L2.St → Hp → Prop, (∀ σ' H', N σ' H' → ∃ m', m' < m ∧ W (i + 1) m' σ' H') ∧ ∀ v H', (ItzT K a b).yld i H v H' → g v σ H' fun σ2 H2 => tb { D with nx := N, ct := N, bk := D.nx } σ2 H2) := by
  refine ⟨fun i m σ H => m = xs.length - i ∧ Pv i σ H, ⟨_, rfl, h0⟩, ?_⟩
  rintro i m σ H ⟨rfl, p⟩
  obtain ⟨k1, k2⟩ := hq i σ H p
  by_cases c : i < xs.length ∧ i < ys.length
  · obtain ⟨x, gx⟩ := get_of c.1
    obtain ⟨y, gy⟩ := get_of c.2
    refine .inr ⟨⟨xs, ys, x, y, k1, k2, gx, gy⟩, Pv (i + 1), fun σ' H' p' => ⟨xs.length - (i + 1), by omega, rfl, p'⟩, fun v H' hy => ?_⟩
    obtain ⟨T, x', y', rfl, hT, rfl, f1, f2⟩ := hy
    have ex : x' = x := Option.some.inj ((f1 _ k1).symm.trans gx)
    have ey : y' = y := Option.some.inj ((f2 _ k2).symm.trans gy)
    subst ex
    subst ey
    exact hs i _ _ T σ H gx gy p hT
  · have c' : xs.length ≤ i ∨ ys.length ≤ i := by omega
    exact .inl ⟨⟨xs, ys, k1, k2, c'⟩, hd i σ H p c'⟩
/-- t[1:] -/
theorem slice_one {K : PySem.W.Frag} {H : Hp} {a : Addr} {xs : List V} {Q : VK} (h : SqT K H a xs) (q : ∀ H' t, Same H H' → SqT K H' t (xs.drop 1) → Q (.ref t) H') : rSlA K (.ref a) (some 1) none H Q := by
  refine ⟨a, xs, rfl, h, fun hw => q H a (Same.refl H) ?_, fun hw u nu => q _ u (sameN nu) (.inl (.inl ?_))⟩
  · have h1 : HT.sIx xs.length 0 (some ((1 : Nat) : Int)) = 0 := hw.1
    rw [HT.sIx_nat] at h1
    have : xs.length = 0 := by omega
    rw [List.eq_nil_of_length_eq_zero this] at h ⊢
    exact h
  · rw [upd_same]
    refine congrArg (fun z => some (HO.tup z)) ?_
    show cutV xs (some ((1 : Nat) : Int)) none = _
    unfold cutV
    rw [HT.sIx_nat, HT.sIx_none]
    by_cases z : xs.length = 0
    · rw [List.eq_nil_of_length_eq_zero z]
      rfl
    · rw [show min 1 xs.length = 1 by omega]
      exact List.take_of_length_le (by rw [List.length_drop]; exact Nat.le_refl _)
/-- a pair as data -/
theorem shaped_pdat {p : Nd × Nat} {l : Nat} (h : Ok p.1 l) (hl : l ≤ 20) : SeqAt.shaped (pdat p) = true := by
  obtain ⟨h1, h2⟩ := canLay_prs l [p] fun q hq => by rw [List.mem_singleton.mp hq]; exact h
  unfold SeqAt.shaped
  rw [Bool.and_eq_true]
  simp only [List.map_cons, List.map_nil, PyData.canLayAll0, PyData.depthAll, Bool.and_true] at h1 h2
  exact ⟨h1, decide_eq_true (by omega)⟩
theorem eqv_pdat (p : Nd × Nat) : PyData.eqv (pdat p) (pdat p) = true := by
  unfold pdat
  simp [PyData.eqv, PyData.eqvAll, eqv_yes]
end Loc

set_option Elab.async false
set_option linter.all false
namespace Loc
open PySem PySem.Spec PyProof.Rows L2
section
variable {X : Cx} {a b c d : Expr} {ta tb tc td : TE} {pos : Pos}
/-- a op1 b op2 c op3 d -/
def tChain3 (r r' r'' : R2) (ta tb tc td : TE) : TE := fun σ H Q => ta σ H fun x H1 => tb σ H1 fun y H2 => r x y H2 fun z H3 => ∃ k, z = .bl k ∧
  (if k = true then tc σ H3 fun w' H4 => r' y w' H4 fun z2 H5 => ∃ k2, z2 = .bl k2 ∧ (if k2 = true then td σ H5 fun u H6 => r'' w' u H6 Q else Q (.bl false) H5) else Q (.bl false) H3)
theorem pt_chain3 {op op' op'' : CmpOp} {r r' r'' : R2} (ho : OpR X (compareOp op) r) (ho' : OpR X (compareOp op') r') (ho'' : OpR X (compareOp op'') r'') (ha : PE X a ta) (hb : PE X b tb) (hc : PE X c tc) (hd : PE X d td)
    (hm : lastMarks [op, op', op''] [b, c, d] = false := by with_unfolding_all rfl) : PT X (.Compare a [op, op', op''] [b, c, d] pos) (tTest (tChain3 r r' r'' ta tb tc td)) := by
  refine ⟨fun pins s σ H Q I h => ?_⟩
  refine isTrue_chain (thn (ha.run pins s σ H _ I h) fun v s1 ⟨x, H1, I1, r1, q1⟩ => test_link (thn (hb.run pins s1 σ H1 _ I1 q1) fun u s2 ⟨y, H2, I2, r2, q2⟩ =>
    thn (ho pins s2 σ H2 x y v u _ I2 r1 r2 q2) fun d' s3 ⟨z, H3, I3, r3, k, e, q3⟩ => ?_)) hm
  subst e
  cases r3
  refine wpAny_truthy_bool ?_
  cases k with
  | false =>
    obtain ⟨k', e', q'⟩ := q3
    cases e'
    exact ite_ff ⟨H3, I3, q'⟩
  | true =>
    refine ite_tt (test_link (thn (hc.run pins s3 σ H3 _ I3 q3) fun w' s4 ⟨z', H4, I4, r4, q4⟩ => thn (ho' pins s4 σ H4 y z' u w' _ I4 r2 r4 q4) fun d2 s5 ⟨z2, H5, I5, r5, k2, e2, q5⟩ => ?_))
    subst e2
    cases r5
    refine wpAny_truthy_bool ?_
    cases k2 with
    | false =>
      obtain ⟨k', e', q'⟩ := q5
      cases e'
      exact ite_ff ⟨H5, I5, q'⟩
    | true =>
      refine ite_tt (test_last (thn (hd.run pins s5 σ H5 _ I5 q5) fun w2 s6 ⟨z6, H6, I6, r6, q6⟩ => thn (ho'' pins s6 σ H6 z' z6 w' w2 _ I6 r4 r6 q6) fun d3 s7 ⟨z7, H7, I7, r7, k3, e3, q7⟩ => ?_))
      subst e3
      cases r7
      exact wpAny_truthy_bool ⟨H7, I7, q7⟩
end
end Loc

set_option Elab.async false
set_option linter.all false
set_option maxRecDepth 100000
namespace Loc
open PySem PySem.Spec PyProof.Rows L2
/-- a comprehension over reversed(t), t a tuple -/
theorem lc_revT {K : PySem.W.Frag} {a : Addr} {xs : List V} {g : TG} {tt : TT} {te : TE} {vs : List Nat} {σ : L2.St} {H1 : Hp} {D : Addr} {Qd : Hp → Prop} (Pv : Nat → Hp → Prop) (h0 : Pv 0 (upd H1 D (.lst []))) (hl : ∀ i H, i ≤ xs.length → Pv i H → SqT K H a xs)
    (hs : ∀ i x H, i < xs.length → xs[xs.length - 1 - i]? = some x → Pv i H → g x (wipe σ vs) H fun σ2 H2 => wipe σ2 vs = wipe σ vs ∧ tt σ2 H2 fun b H3 =>
      if b = true then te σ2 H3 fun y H4 => ∃ acc, H4 D = some (.lst acc) ∧ acc.length < sizeLine ∧ Pv (i + 1) (upd H4 D (.lst (acc ++ [y]))) else Pv (i + 1) H3) (hd : ∀ H, Pv xs.length H → Qd H) :
    ∃ W : Nat → Nat → Hp → Prop, (∃ m, W 0 m (upd H1 D (.lst []))) ∧ ∀ i m H, W i m H →
      ((RT.ItvT K a xs.length).stop i H ∧ Qd H) ∨ ((RT.ItvT K a xs.length).go i H ∧ ∃ Nx : Hp → Prop, (∀ H', Nx H' → ∃ m', m' < m ∧ W (i + 1) m' H') ∧ ∀ x H', (RT.ItvT K a xs.length).yld i H x H' → g x (wipe σ vs) H' fun σ2 H2 => wipe σ2 vs = wipe σ vs ∧ tt σ2 H2 fun b H3 =>
        if b = true then te σ2 H3 fun y H4 => ∃ acc, H4 D = some (.lst acc) ∧ acc.length < sizeLine ∧ Nx (upd H4 D (.lst (acc ++ [y]))) else Nx H3) := by
  refine ⟨fun i m H => m = xs.length - i ∧ i ≤ xs.length ∧ Pv i H, ⟨xs.length, by simp, Nat.zero_le _, h0⟩, ?_⟩
  rintro i m H ⟨rfl, hi, p⟩
  have q := hl i H hi p
  by_cases hlt : i < xs.length
  · refine .inr ⟨⟨hlt, xs, xs[xs.length - 1 - i]'(by omega), q, by rw [List.getElem?_eq_getElem]⟩, Pv (i + 1), fun H' p' => ⟨xs.length - (i + 1), by omega, rfl, hlt, p'⟩, fun x H' y => ?_⟩
    obtain ⟨e, y⟩ := y
    subst e
    exact hs i x _ hlt (y xs q) p
  · have e : i = xs.length := by omega
    subst e
    exact .inl ⟨Nat.le_refl _, hd H p⟩
end Loc

set_option Elab.async false
set_option linter.all false
set_option maxRecDepth 100000
set_option maxHeartbeats 4000000
namespace Loc
open PySem PySem.Spec PyProof.Rows L2
/-- a short tuple, written up to 2000 times -/
def rRepT2 (K : PySem.W.Frag) : R2 := fun x y H Q => ∃ l k xs, x = .ref l ∧ y = .int k ∧ SqT K H l xs ∧ xs ≠ [] ∧ 2 ≤ k ∧ k ≤ 2000 ∧ xs.length ≤ 400 ∧ ∀ H' p, Same H H' → SqT K H' p (List.replicate k.toNat xs).flatten → Q (.ref p) H'
theorem op_repT2 {X : Cx} : OpR X (binaryOp .Mult) (rRepT2 X.K) := by
  intro pins s σ H x y v u Q I rx ry h
  obtain ⟨l, k, xs, rfl, rfl, tup, ne, two, most, short, q⟩ := h
  cases rx
  obtain ⟨w, rfl⟩ := ry
  obtain ⟨ys, r, ⟨⟨cls, dd, data, sl⟩, hob, hcl, n, hdt⟩, hsm⟩ := I.tuple tup
  simp only at hcl hdt
  subst hcl hdt
  have ly : ys.length = xs.length := r.length.symm
  obtain ⟨y0, yr, rfl⟩ : ∃ y0 yr, ys = y0 :: yr := by
    cases ys with
    | nil => exact absurd (List.eq_nil_of_length_eq_zero ly.symm) ne
    | cons a b => exact ⟨a, b, rfl⟩
  have filled : ((y0 :: yr).toArray).isEmpty = false := rfl
  have size0 : ((y0 :: yr).toArray).size = xs.length := by rw [List.size_toArray, ly]
  have prod : ((((y0 :: yr).toArray).size : Nat) : Int) * k ≤ 800000 := by
    rw [size0]
    have := Int.mul_le_mul_of_nonneg_right (c := k) (show ((xs.length : Nat) : Int) ≤ 400 by omega) (by omega)
    omega
  have prodN : k.toNat * xs.length ≤ 2000 * 400 := Nat.mul_le_mul (by omega) short
  have flat : (List.replicate k.toNat (y0 :: yr)).flatten.length ≤ sizeLine := by
    rw [PyProof.Rows.lm_len_rep_flat, ly]
    exact Nat.le_trans prodN (by decide)
  have b0 : (decide (k < -(2 ^ 63)) || decide (k ≥ 2 ^ 63)) = false := by
    rw [Bool.or_eq_false_iff]
    exact ⟨decide_eq_false (by omega), decide_eq_false (by omega)⟩
  have b1 : (((y0 :: yr).toArray).isEmpty || k == 1) = false := Bool.or_eq_false_iff.mpr ⟨filled, beq_eq_false_iff_ne.mpr (by omega)⟩
  have b2 : (decide (k ≤ 0) || ((y0 :: yr).toArray).isEmpty) = false := Bool.or_eq_false_iff.mpr ⟨decide_eq_false (by omega), filled⟩
  have b4 : Builtin.Tuple.tupleTooMany (((((y0 :: yr).toArray).size : Nat) : Int) * k) = false := by
    have : (800000 : Int) ≤ ((sizeLine : Nat) : Int) := by decide
    exact decide_eq_false (by omega)
  refine wpAny_binaryOp_repeat_ref (T := "tuple") (U := "int")
    (by decide) ⟨_, hob, rfl⟩ (fun s' => typeIs_int s' k w)
    noFill_tuple_mul PySem.F.fills_int_mul PySem.F.slot_int_rmul
    repeat_tuple PySem.F.slot_int_index.lookup ?_
  refine call_meets PySem.F.slot_int_rmul (typeIs_int s k w)
    PySem.F.entry_int_rmul (PySem.F.args_int_rmul_2 _ _)
    (int_rmul_tuple k w l (y0 :: yr).toArray n dd sl) ⟨hob, rfl, ⟨_, hob, rfl⟩, ?_⟩
  refine call_meets PySem.F.slot_tuple_mul ⟨_, hob, rfl⟩
    PySem.F.entry_tuple_mul (PySem.F.args_tuple_mul_2 _ _)
    (tuple_mulW l (y0 :: yr).toArray n dd sl k w b0 b1 b2 (by omega) b4
      (by rw [size_rep, List.size_toArray]; exact flat)) ⟨hob, ?_⟩
  rw [size_rep]
  have fresh : H s.heap.objs.size = none := I.hok.fresh (Nat.le_refl _)
  refine ⟨.ref s.heap.objs.size, _, I.laid (t' := s.toks) (o := .tup (List.replicate k.toNat xs).flatten)
    (fun b ob z => Heap.get?_push_of_some _ z) (Nat.le_refl _) ⟨?_, _, r.rep k.toNat, IsTup.new _ _⟩, rfl, q _ _ (sameN fresh) (.inl (.inl upd_same))⟩
  rw [PyProof.Rows.lm_len_rep_flat]
  exact Nat.le_trans prodN (by decide)
end Loc

set_option Elab.async false
set_option linter.all false
set_option maxRecDepth 100000
namespace Loc
open PySem PySem.Spec PyProof.Rows L2
/-! ### data of any kind: dicts among them -/
def keyD : Key → PyData
  | .inl i => .int i
  | .inr x => .str x
mutual
inductive Dq (K : PySem.W.Frag) (H : Hp) : V → PyData → Prop
  | non : Dq K H .non .none
  | bl (b : Bool) : Dq K H (.bl b) (.bool b)
  | int (i : Int) : Dq K H (.int i) (.int i)
  | str (x : Str) : Dq K H (.str x) (.str x)
  | lst {a : Addr} {xs : List V} {ds : List PyData} : SqL K H a xs → DqAll K H xs ds → Dq K H (.ref a) (.list ds)
  | tup {a : Addr} {xs : List V} {ds : List PyData} : SqT K H a xs → DqAll K H xs ds → Dq K H (.ref a) (.tuple ds)
  | dct {a : Addr} {kvs : List (Key × V)} {ps : List (PyData × PyData)} : H a = some (.dK kvs) → DqKv K H kvs ps → Dq K H (.ref a) (.dict ps)
inductive DqAll (K : PySem.W.Frag) (H : Hp) : List V → List PyData → Prop
  | nil : DqAll K H [] []
  | cons {v : V} {vs : List V} {d : PyData} {ds : List PyData} : Dq K H v d → DqAll K H vs ds → DqAll K H (v :: vs) (d :: ds)
inductive DqKv (K : PySem.W.Frag) (H : Hp) : List (Key × V) → List (PyData × PyData) → Prop
  | nil : DqKv K H [] []
  | cons {k : Key} {v : V} {d : PyData} {kvs : List (Key × V)} {ps : List (PyData × PyData)} : Dq K H v d → DqKv K H kvs ps → DqKv K H ((k, v) :: kvs) ((keyD k, d) :: ps)
end
section
variable {X : Cx} {pins : List (Addr × Obj)} {σ : L2.St} {H : Hp} {s : Shared}
/-- what the reading gives: the data, and its text -/
def RdK (P : Program) (w : World) (h : Heap) (u : Value) (d : PyData) : Prop :=
  ∃ as, Reads h u d as ∧ ∃ bs, ReadAtMost h d.depth bs ∧ ReprK P w bs h d.depth u d.shown
def RdA (P : Program) (w : World) (h : Heap) (us : List Value) (ds : List PyData) : Prop :=
  ∃ as, ReadsAll h us ds as ∧ ∃ bs, ReadAtMost h (PyData.depthAll ds) bs ∧ ReprAllK P w bs h (PyData.depthAll ds) us (PyData.shownAll ds)
theorem RdA.nil {P : Program} {w : World} {h : Heap} : RdA P w h [] [] := ⟨_, .nil, [], (fun _ z => nomatch z), by rw [PyData.shownAll]; exact .nil⟩
theorem RdA.cons {P : Program} {w : World} {h : Heap} {u : Value} {d : PyData} {us : List Value} {ds : List PyData} (x : RdK P w h u d) (y : RdA P w h us ds) : RdA P w h (u :: us) (d :: ds) := by
  obtain ⟨a1, r1, b1, m1, k1⟩ := x
  obtain ⟨a2, r2, b2, m2, k2⟩ := y
  refine ⟨_, .cons r1 r2, b1 ++ b2, ?_, ?_⟩
  · rw [PyData.depthAll]
    exact (m1.mono (Nat.le_max_left _ _)).append (m2.mono (Nat.le_max_right _ _))
  · rw [PyData.depthAll, PyData.shownAll]
    exact .cons ((k1.more fun b z => List.mem_append_left _ z).level_le (Nat.le_max_left _ _)) (k2.more_le (fun b z => List.mem_append_right _ z) (Nat.le_max_right _ _))
theorem keyD_rd {P : Program} {w : World} {h : Heap} {k : Key} {u : Value} (e : keyIs k u = true) (hs : (keyD k).showable = true) (hz : (keyD k).shown.length ≤ sizeLine) : RdK P w h u (keyD k) := by
  rcases keyIs_shape e with ⟨i, t, rfl, rfl⟩ | ⟨x, t, rfl, rfl⟩
  · refine ⟨_, .int i t, [], (fun _ z => nomatch z), ?_⟩
    simp only [keyD, PyData.shown]
    exact .of_is (ReprIs.int t (by simpa [keyD, PyData.showable] using hs)) _ _ _
  · refine ⟨_, .str x t, [], (fun _ z => nomatch z), ?_⟩
    simp only [keyD, PyData.shown] at hz ⊢
    exact .of_is (ReprIs.str x t hz) _ _ _
theorem RdK.lst {P : Program} {w : World} {h : Heap} {a : Addr} {o : Obj} {vs : Array Value} {n : Nat} {ds : List PyData} (ho : h.get? a = some o) (hc : o.cls = .type "list") (hd : o.data = .seq vs n)
    (y : RdA P w h vs.toList ds) : RdK P w h (.ref a) (.list ds) := by
  obtain ⟨as, r, bs, m, k⟩ := y
  have rr : Reads h (.ref a) (.list ds) _ := .list ho hc hd r
  have na : a ∉ bs := not_mem_of_deeper rr (by simp only [PyData.depth]; omega) m
  refine ⟨_, rr, a :: bs, ReadAtMost.cons rr (by simp only [PyData.depth]; omega) m, ?_⟩
  simp only [PyData.depth, PyData.shown]
  obtain ⟨l⟩ := vs
  cases l with
  | nil =>
    have r' : ReadsAll h [] ds _ := r
    cases r'
    rw [PyData.shownAll, listText_nil]
    exact ReprK.listEmpty ho hc hd
  | cons x l => exact ReprK.list ho hc hd na (by simpa using k.length_eq) (fun i y e => k.item i y (by simpa using e))
theorem RdK.tup {P : Program} {w : World} {h : Heap} {a : Addr} {o : Obj} {vs : Array Value} {n : Nat} {ds : List PyData} (ho : h.get? a = some o) (hc : o.cls = .type "tuple") (hd : o.data = .seq vs n)
    (y : RdA P w h vs.toList ds) : RdK P w h (.ref a) (.tuple ds) := by
  obtain ⟨as, r, bs, m, k⟩ := y
  have rr : Reads h (.ref a) (.tuple ds) _ := .tuple ho hc hd r
  have na : a ∉ bs := not_mem_of_deeper rr (by simp only [PyData.depth]; omega) m
  refine ⟨_, rr, a :: bs, ReadAtMost.cons rr (by simp only [PyData.depth]; omega) m, ?_⟩
  simp only [PyData.depth, PyData.shown]
  exact ReprK.tuple ho hc hd na k
theorem RdK.dct {P : Program} {w : World} {h : Heap} {a : Addr} {o : Obj} {es : Array DictEntry} {n : Nat} {ps : List (PyData × PyData)} (ho : h.get? a = some o) (hc : o.cls = .type "dict") (hd : o.data = .dict es n)
    (hm : (a == sysModules) = false) (y : RdA P w h (es.toList.map (·.key)) (ps.map (·.1))) (z : RdA P w h (es.toList.map (·.val)) (ps.map (·.2))) : RdK P w h (.ref a) (.dict ps) := by
  obtain ⟨a1, r1, b1, m1, k1⟩ := y
  obtain ⟨a2, r2, b2, m2, k2⟩ := z
  have rr : Reads h (.ref a) (.dict ps) _ := .dict ho hc hd r1 r2
  have m : ReadAtMost h (PyData.depthKv ps) (b1 ++ b2) := (m1.mono (PyData.depthAll_keys_le ps)).append (m2.mono (PyData.depthAll_vals_le ps))
  have na : a ∉ b1 ++ b2 := not_mem_of_deeper rr (by simp only [PyData.depth]; omega) m
  refine ⟨_, rr, a :: (b1 ++ b2), ReadAtMost.cons rr (by simp only [PyData.depth]; omega) m, ?_⟩
  simp only [PyData.depth, PyData.shown, PyData.shownKv_eq]
  refine ReprK.dict ho hc hd hm na (ReprEntriesK.of_two _ _ _ (k1.more_le (fun b q => ?_) (PyData.depthAll_keys_le ps)) (k2.more_le (fun b q => ?_) (PyData.depthAll_vals_le ps)))
  · exact List.mem_append_left _ q
  · exact List.mem_append_right _ q
theorem shown_in {ds : List PyData} {m : Nat} (e : ∀ t ∈ PyData.shownAll ds, t.length ≤ m) {d : PyData} (h : d ∈ ds) : d.shown.length ≤ m := by
  induction ds with
  | nil => exact nomatch h
  | cons x r ih =>
    rw [PyData.shownAll] at e
    rcases List.mem_cons.mp h with rfl | h
    · exact e _ List.mem_cons_self
    · exact ih (fun t ht => e t (List.mem_cons_of_mem _ ht)) h
mutual
theorem Dq.rd (I : Inv X pins σ H s) : ∀ (d : PyData) (v : V) (u : Value), Dq X.K H v d → RelV v u → d.showable = true → d.shown.length ≤ sizeLine → RdK X.prog X.w s.heap u d
  | .none, _, _, h, r, _, _ => by
    cases h
    cases r
    refine ⟨_, .none, [], (fun _ z => nomatch z), ?_⟩
    simp only [PyData.shown]
    exact .of_is ReprIs.none _ _ _
  | .bool b, _, _, h, r, _, _ => by
    cases h
    cases r
    refine ⟨_, .bool b, [], (fun _ z => nomatch z), ?_⟩
    simp only [PyData.shown]
    exact .of_is (ReprIs.bool b) _ _ _
  | .int i, _, _, h, r, hs, _ => by
    cases h
    obtain ⟨t, rfl⟩ := r
    exact keyD_rd (k := .inl i) (keyIs_int i t) hs (by simp only [keyD, PyData.shown]; exact int_text_fits (by simpa [PyData.showable] using hs))
  | .str x, _, _, h, r, hs, hz => by
    cases h
    obtain ⟨t, rfl⟩ := r
    exact keyD_rd (k := .inr x) (keyIs_str x t) hs hz
  | .list ds, _, _, h, r, hs, hz => by
    cases h with
    | lst hq ha =>
      cases r
      obtain ⟨its, rv, ⟨o, n, ho, hc, _, hd⟩, _⟩ := I.list hq
      refine RdK.lst ho hc hd (Dq.rdAll I ds _ its ha rv (by simpa [PyData.showable] using hs) fun t ht => ?_)
      rw [PyData.shown] at hz
      exact Nat.le_trans (listText_mem_le ht) hz
  | .tuple ds, _, _, h, r, hs, hz => by
    cases h with
    | tup hq ha =>
      cases r
      obtain ⟨its, rv, ⟨o, ho, hc, n, hd⟩, _⟩ := I.tuple hq
      refine RdK.tup ho hc hd (Dq.rdAll I ds _ its ha rv (by simpa [PyData.showable] using hs) fun t ht => ?_)
      rw [PyData.shown] at hz
      exact Nat.le_trans (tupleText_mem_le ht) hz
  | .dict ps, _, _, h, r, hs, hz => by
    cases h with
    | dct hq ha =>
      cases r
      obtain ⟨_, hm, vs, kv, o, es, n, ho, hx, hd, _, hp, _⟩ := dk_rd I.hok (.inl hq)
      have hz' : ∀ t ∈ PyData.shownKv ps, t.length ≤ sizeLine := fun t ht => by
        rw [PyData.shown] at hz
        exact Nat.le_trans (dictText_mem_le ht) hz
      obtain ⟨y, z⟩ := Dq.rdKv I ps _ vs es.toList ha kv hp (by simpa [PyData.showable] using hs) hz'
      exact RdK.dct ho hx.1 hd hm y z
theorem Dq.rdAll (I : Inv X pins σ H s) : ∀ (ds : List PyData) (vs : List V) (us : List Value), DqAll X.K H vs ds → Vals vs us → PyData.showableAll ds = true → (∀ t ∈ PyData.shownAll ds, t.length ≤ sizeLine) → RdA X.prog X.w s.heap us ds
  | [], _, _, h, r, _, _ => by
    cases h
    cases r
    exact .nil
  | d :: ds, _, _, h, r, hs, hz => by
    cases h with
    | cons h1 h2 =>
      cases r with
      | cons r1 r2 =>
        have hs' : d.showable = true ∧ PyData.showableAll ds = true := by simpa [PyData.showableAll] using hs
        rw [PyData.shownAll] at hz
        exact RdA.cons (Dq.rd I d _ _ h1 r1 hs'.1 (hz _ List.mem_cons_self)) (Dq.rdAll I ds _ _ h2 r2 hs'.2 fun t ht => hz t (List.mem_cons_of_mem _ ht))
theorem Dq.rdKv (I : Inv X pins σ H s) : ∀ (ps : List (PyData × PyData)) (kvs : List (Key × V)) (vs : List (Key × Value)) (es : List DictEntry), DqKv X.K H kvs ps → KV kvs vs → Pairs (mixKind X.prog X.w) es vs →
    PyData.showableKv ps = true → (∀ t ∈ PyData.shownKv ps, t.length ≤ sizeLine) → RdA X.prog X.w s.heap (es.map (·.key)) (ps.map (·.1)) ∧ RdA X.prog X.w s.heap (es.map (·.val)) (ps.map (·.2))
  | [], _, _, _, h, r, p, _, _ => by
    cases h
    cases r
    cases p
    exact ⟨.nil, .nil⟩
  | (kd, d) :: ps, _, _, _, h, r, p, hs, hz => by
    cases h with
    | cons h1 h2 =>
      cases r with
      | cons r1 r2 =>
        cases p with
        | cons p1 p2 p3 =>
          obtain ⟨e1, e2⟩ := r1
          rw [PyData.showableKv] at hs
          have hs' := (Bool.and_eq_true _ _).mp hs
          have hs1 := (Bool.and_eq_true _ _).mp hs'.1
          rw [PyData.shownKv] at hz
          have hl := hz _ List.mem_cons_self
          rw [strLen_append, strLen_append] at hl
          obtain ⟨y, z⟩ := Dq.rdKv I ps _ _ _ h2 r2 p3 hs'.2 fun t ht => hz t (List.mem_cons_of_mem _ ht)
          refine ⟨RdA.cons (keyD_rd ?_ hs1.1 (by omega)) y, RdA.cons ?_ z⟩
          · dsimp only at e1 ⊢
            rw [e1]
            exact p1
          · dsimp only at p2 e2 ⊢
            rw [p2]
            exact Dq.rd I d _ _ h1 e2 hs1.2 (by omega)
end
end
/-- repr(v), v data of any kind that a heap bears -/
def rRepQ (K : PySem.W.Frag) : List V → Hp → VK → Prop := fun xs H Q => ∃ v d, xs = [v] ∧ Dq K H v d ∧
  d.showable = true ∧ d.depth ≤ 62 ∧ d.shown.length ≤ sizeLine ∧ Q (.str d.shown) H
theorem call_repQ {X : Cx} {k : Nat} (hr : Room k X.A) (hg : X.A.guards = some []) : CallR X (.builtin "repr") (rRepQ X.K) := by
  intro pins s σ H xs us Q I r h
  obtain ⟨v, d, rfl, hd, h1, h3, h4, q⟩ := h
  obtain ⟨u, rfl, ru⟩ := vals1 r
  have hu := hr.units
  have hg1 : X.A.in1.guards = some [] := hg
  match d, hd, h1, h3, h4, q with
  | .none, hd, _, _, _, q =>
    cases hd
    cases ru
    exact P.repr_of_none ⟨.str _, H, I.tok _, ⟨_, rfl⟩, by rw [PyData.shown] at q; exact q⟩
  | .bool b, hd, _, _, _, q =>
    cases hd
    cases ru
    exact P.repr_of_bool ⟨.str _, H, I.tok _, ⟨_, rfl⟩, by rw [PyData.shown] at q; exact q⟩
  | .int i, hd, h1, _, _, q =>
    cases hd
    obtain ⟨t, rfl⟩ := ru
    exact P.repr_of_int (by simpa [PyData.showable] using h1) ⟨.str _, H, I.tok _, ⟨_, rfl⟩, by rw [PyData.shown] at q; exact q⟩
  | .str x, hd, _, _, h4, q =>
    cases hd
    obtain ⟨t, rfl⟩ := ru
    exact P.repr_of_str ⟨.str _, H, I.tok _, ⟨_, rfl⟩, by rw [PyData.shown] at q; exact q⟩ (by rw [PyData.shown] at h4; exact h4)
  | .list ds, hd, h1, h3, h4, q =>
    cases hd with
    | lst hq ha =>
      cases ru
      obtain ⟨its, rv, ⟨o, n, ho, hc, _, hd⟩, _⟩ := I.list hq
      rw [PyData.shown] at h4 q
      obtain ⟨as, r, bs, m, k⟩ := Dq.rdAll I ds _ its ha rv (by simpa [PyData.showable] using h1) fun t ht => Nat.le_trans (listText_mem_le ht) h4
      have rr : Reads s.heap _ (.list ds) _ := .list ho hc hd r
      have na := not_mem_of_deeper rr (by simp only [PyData.depth]; omega) m
      simp only [PyData.depth] at h3
      refine call_repr_slot (by omega) ⟨o, ho, hc⟩ F.slot_list_repr.toG ?_
      cases its with
      | nil =>
        cases r
        rw [PyData.shownAll, listText_nil] at q
        exact call_list_repr_empty ⟨o, ho, hc⟩ ho hd ⟨_, _, rfl, .str _, H, I.kept (fun _ _ e => e), ⟨_, rfl⟩, q⟩
      | cons x l =>
        exact call_list_reprK ho hc hd na (by simpa using k.length_eq) (fun i y e => k.item i y (by simpa using e)) hg1 (fun b _ => Clear.nil b) (by show X.A.units + 1 + _ < cLine; omega) (fun _ _ e => e)
          (fun h' u tk hk => ⟨_, _, rfl, .str _, H, I.kept hk, ⟨_, rfl⟩, q⟩) h4
  | .tuple ds, hd, h1, h3, h4, q =>
    cases hd with
    | tup hq ha =>
      cases ru
      obtain ⟨its, rv, ⟨o, ho, hc, n, hd⟩, _⟩ := I.tuple hq
      rw [PyData.shown] at h4 q
      obtain ⟨as, r, bs, m, k⟩ := Dq.rdAll I ds _ its ha rv (by simpa [PyData.showable] using h1) fun t ht => Nat.le_trans (tupleText_mem_le ht) h4
      have rr : Reads s.heap _ (.tuple ds) _ := .tuple ho hc hd r
      have na := not_mem_of_deeper rr (by simp only [PyData.depth]; omega) m
      simp only [PyData.depth] at h3
      refine call_repr_slot (by omega) ⟨o, ho, hc⟩ F.slot_tuple_repr ?_
      exact call_tuple_reprK ho hc hd na k hg1 (fun b _ => Clear.nil b) (by show X.A.units + 1 + _ < cLine; omega) (fun _ _ e => e)
          (fun h' u tk hk => ⟨_, _, rfl, .str _, H, I.kept hk, ⟨_, rfl⟩, q⟩) h4
  | .dict ps, hd, h1, h3, h4, q =>
    cases hd with
    | dct hq ha =>
      cases ru
      obtain ⟨_, hm, vs, kv, o, es, n, ho, hx, hd, _, hp, _⟩ := dk_rd I.hok (.inl hq)
      rw [PyData.shown] at h4 q
      obtain ⟨⟨a1, r1, b1, m1, k1⟩, a2, r2, b2, m2, k2⟩ := Dq.rdKv I ps _ vs es.toList ha kv hp (by simpa [PyData.showable] using h1) fun t ht => Nat.le_trans (dictText_mem_le ht) h4
      have rr : Reads s.heap _ (.dict ps) _ := .dict ho hx.1 hd r1 r2
      have m : ReadAtMost s.heap (PyData.depthKv ps) (b1 ++ b2) := (m1.mono (PyData.depthAll_keys_le ps)).append (m2.mono (PyData.depthAll_vals_le ps))
      have na := not_mem_of_deeper rr (by simp only [PyData.depth]; omega) m
      simp only [PyData.depth] at h3
      rw [PyData.shownKv_eq] at h4 q
      refine call_repr_slot (by omega) ⟨o, ho, hx.1⟩ F.slot_dict_repr ?_
      exact call_dict_reprK ho hx.1 hd hm na (ReprEntriesK.of_two _ _ _ (k1.more_le (fun b z => List.mem_append_left _ z) (PyData.depthAll_keys_le ps)) (k2.more_le (fun b z => List.mem_append_right _ z) (PyData.depthAll_vals_le ps)))
        hg1 (fun b _ => Clear.nil b) (by show X.A.units + 1 + _ < cLine; omega) (fun _ _ e => e) (fun h' u tk hk => ⟨_, _, rfl, .str _, H, I.kept hk, ⟨_, rfl⟩, q⟩) h4
end Loc

set_option Elab.async false
set_option linter.all false
set_option maxRecDepth 100000
namespace Loc
open PySem PySem.Spec PyProof.Rows L2
/-! ### bools among numbers -/
def isNum : V → Int → Prop
  | .int i, j => i = j
  | .bl b, j => (if b = true then (1 : Int) else 0) = j
  | _, _ => False
section
variable {X : Cx}
def rNumI (f : Int → Int → Int) : R2 := fun x y H Q => ∃ i j, isNum x i ∧ y = .int j ∧ Q (.int (f i j)) H
theorem op_addB : OpR X (binaryOp .Add) (rNumI fun i j => i + j) := by
  intro pins s σ H x y v u Q I rx ry h
  obtain ⟨i, j, hx, rfl, q⟩ := h
  obtain ⟨t, rfl⟩ := ry
  cases x with
  | int a =>
    obtain rfl : a = i := hx
    obtain ⟨t', rfl⟩ := rx
    exact add_int ⟨.int _, H, I.tok _, ⟨_, rfl⟩, q⟩
  | bl b =>
    obtain rfl : (if b = true then (1 : Int) else 0) = i := hx
    cases rx
    exact PySem.IntBool.add_bool_int ⟨.int _, H, I.tok _, ⟨_, rfl⟩, q⟩
  | _ => exact (show False from hx).elim
theorem op_subB : OpR X (binaryOp .Sub) (rNumI fun i j => i - j) := by
  intro pins s σ H x y v u Q I rx ry h
  obtain ⟨i, j, hx, rfl, q⟩ := h
  obtain ⟨t, rfl⟩ := ry
  cases x with
  | int a =>
    obtain rfl : a = i := hx
    obtain ⟨t', rfl⟩ := rx
    exact sub_int ⟨.int _, H, I.tok _, ⟨_, rfl⟩, q⟩
  | bl b =>
    obtain rfl : (if b = true then (1 : Int) else 0) = i := hx
    cases rx
    exact PySem.IntBool.sub_bool_int ⟨.int _, H, I.tok _, ⟨_, rfl⟩, q⟩
  | _ => exact (show False from hx).elim
/-- str(x), x a number -/
def rStrB : List V → Hp → VK → Prop := fun xs H Q => (∃ i : Int, xs = [.int i] ∧ i.natAbs.log2 < 1920 ∧ Q (.str (toString i)) H) ∨ ∃ b : Bool, xs = [.bl b] ∧ Q (.str (if b then "True" else "False")) H
theorem call_strB : CallR X (.type "str") rStrB := by
  intro pins s σ H xs us Q I r h
  rcases h with ⟨i, rfl, hz, q⟩ | ⟨b, rfl, q⟩
  · obtain ⟨u, rfl, t, rfl⟩ := vals1 r
    exact PySem.P.str_of_int hz ⟨.str _, H, I.tok _, ⟨_, rfl⟩, q⟩
  · obtain ⟨u, rfl, r1⟩ := vals1 r
    cases r1
    exact PySem.P.str_of_bool ⟨.str _, H, I.tok _, ⟨_, rfl⟩, q⟩
/-- t != () -/
def rNeT0 (K : PySem.W.Frag) : R2 := fun x y H Q => ∃ a b xs, x = .ref a ∧ y = .ref b ∧ SqT K H a xs ∧ SqT K H b [] ∧ Q (.bl (!xs.isEmpty)) H
theorem op_neT0 (hu : X.A.units + 64 < cLine) : OpR X (compareOp .NotEq) (rNeT0 X.K) := by
  intro pins s σ H x y v u Q I rx ry h
  obtain ⟨a, b, xs, rfl, rfl, ha, hb, q⟩ := h
  cases rx
  cases ry
  obtain ⟨its, r1, p1, _⟩ := I.tuple ha
  obtain ⟨its2, r2, p2, _⟩ := I.tuple hb
  cases r2
  refine SeqAt.RcNeAt.tuples (A := X.A) (e := fun _ => true) p1 p2 (by omega) (fun j h1 h2 => absurd h2 (Nat.not_lt_zero j)) _ _ _ _ ⟨.bl (!xs.isEmpty), H, I, ?_, q⟩
  have e := r1.length
  show Value.bool _ = Value.bool _
  cases xs with
  | nil =>
    cases r1
    rfl
  | cons x r =>
    cases r1
    rfl
end
/-! ### the heap beside some lists -/
open Classical in
noncomputable def wo (S : Addr → Prop) (H : Hp) : Hp := fun b => if S b then none else H b
/-- lists stand there -/
def Kp (S : Addr → Prop) (H : Hp) : Prop := ∀ a, S a → ∃ ys, H a = some (.lst ys)
theorem wo_ne {S : Addr → Prop} {b : Addr} {H : Hp} (h : ¬ S b) : wo S H b = H b := by
  unfold wo
  rw [if_neg h]
theorem wo_in {S : Addr → Prop} {b : Addr} {H : Hp} (h : S b) : wo S H b = none := by
  unfold wo
  rw [if_pos h]
theorem wo_same {S : Addr → Prop} {H : Hp} : Same (wo S H) H := fun b o h => by
  by_cases e : S b
  · rw [wo_in e] at h
    cases h
  · rw [wo_ne e] at h
    exact h
theorem wo_up {S : Addr → Prop} {H H' : Hp} (s : Same H H') : Same (wo S H) (wo S H') := fun b o h => by
  by_cases e : S b
  · rw [wo_in e] at h
    cases h
  · rw [wo_ne e] at h ⊢
    exact s b o h
theorem But.wo {p : Addr} {S : Addr → Prop} {H H' : Hp} (hS : S p) (s : But p H H') : Same (Loc.wo S H) (Loc.wo S H') := fun b o h => by
  by_cases e : S b
  · rw [wo_in e] at h
    cases h
  · rw [wo_ne e] at h ⊢
    exact s b o (fun z => e (by rw [z]; exact hS)) h
theorem Kp.up {S : Addr → Prop} {H H' : Hp} (k : Kp S H) (s : Same H H') : Kp S H' := fun a h => let ⟨ys, e⟩ := k a h; ⟨ys, s _ _ e⟩
theorem Kp.but {p : Addr} {c : Nat} {S : Addr → Prop} {H H' : Hp} (k : Kp S H) (s : But p H H') (hp : Pot H' p c) : Kp S H' := fun a h => by
  by_cases e : a = p
  · rw [e]
    exact hp.ls
  · obtain ⟨ys, z⟩ := k a h
    exact ⟨ys, s a _ e z⟩
theorem Kp.new {S : Addr → Prop} {H : Hp} {q : Addr} (k : Kp S H) (h : H q = none) : ¬ S q := fun z => by
  obtain ⟨ys, e⟩ := k q z
  rw [h] at e
  cases e
/-- more lists are left aside -/
theorem wo_less {S T : Addr → Prop} {H : Hp} (h : ∀ a, T a → S a) : Same (Loc.wo S H) (Loc.wo T H) := fun b o e => by
  by_cases z : S b
  · rw [wo_in z] at e
    cases e
  · rw [wo_ne z] at e
    rw [wo_ne (fun t => z (h b t))]
    exact e
mutual
theorem Dq.up {K : PySem.W.Frag} {H H' : Hp} (e : Same H H') : ∀ {v : V} {d : PyData}, Dq K H v d → Dq K H' v d
  | _, _, .non => .non
  | _, _, .bl b => .bl b
  | _, _, .int i => .int i
  | _, _, .str x => .str x
  | _, _, .lst h t => .lst (e.seq h) (DqAll.up e t)
  | _, _, .tup h t => .tup (sameT e h) (DqAll.up e t)
  | _, _, .dct h t => .dct (e _ _ h) (DqKv.up e t)
theorem DqAll.up {K : PySem.W.Frag} {H H' : Hp} (e : Same H H') : ∀ {vs : List V} {ds : List PyData}, DqAll K H vs ds → DqAll K H' vs ds
  | _, _, .nil => .nil
  | _, _, .cons h t => .cons (Dq.up e h) (DqAll.up e t)
theorem DqKv.up {K : PySem.W.Frag} {H H' : Hp} (e : Same H H') : ∀ {vs : List (Key × V)} {ds : List (PyData × PyData)}, DqKv K H vs ds → DqKv K H' vs ds
  | _, _, .nil => .nil
  | _, _, .cons h t => .cons (Dq.up e h) (DqKv.up e t)
end
theorem DqAll.len {K : PySem.W.Frag} {H : Hp} : ∀ {vs : List V} {ds : List PyData}, DqAll K H vs ds → vs.length = ds.length
  | _, _, .nil => rfl
  | _, _, .cons _ t => congrArg (· + 1) (DqAll.len t)
theorem DqAll.get {K : PySem.W.Frag} {H : Hp} : ∀ {vs : List V} {ds : List PyData} {i : Nat} {v : V}, DqAll K H vs ds → vs[i]? = some v → ∃ d, ds[i]? = some d ∧ Dq K H v d
  | _, _, _, _, .nil, e => by simp at e
  | _, _, 0, _, .cons h _, e => by
    simp only [List.getElem?_cons_zero, Option.some.injEq] at e
    subst e
    exact ⟨_, rfl, h⟩
  | _, _, i + 1, _, .cons _ t, e => by
    simp only [List.getElem?_cons_succ] at e ⊢
    exact DqAll.get t e
theorem DqAll.at {K : PySem.W.Frag} {H : Hp} {vs : List V} {ds : List PyData} {i : Nat} {d : PyData} (h : DqAll K H vs ds) (e : ds[i]? = some d) : ∃ v, vs[i]? = some v ∧ Dq K H v d := by
  have l := h.len
  have i1 := (List.getElem?_eq_some_iff.mp e).1
  obtain ⟨v, hv⟩ := get_of (l := vs) (i := i) (by omega)
  obtain ⟨d', e', q⟩ := h.get hv
  rw [e] at e'
  cases e'
  exact ⟨v, hv, q⟩
theorem DqAll.app {K : PySem.W.Frag} {H : Hp} : ∀ {vs us : List V} {ds es : List PyData}, DqAll K H vs ds → DqAll K H us es → DqAll K H (vs ++ us) (ds ++ es)
  | _, _, _, _, .nil, k => k
  | _, _, _, _, .cons h t, k => .cons h (DqAll.app t k)
theorem DqAll.take {K : PySem.W.Frag} {H : Hp} : ∀ {vs : List V} {ds : List PyData} (n : Nat), DqAll K H vs ds → DqAll K H (vs.take n) (ds.take n)
  | _, _, 0, _ => by simpa using DqAll.nil
  | _, _, n + 1, .nil => by simpa using DqAll.nil
  | _, _, n + 1, .cons h t => by
    rw [List.take_succ_cons, List.take_succ_cons]
    exact .cons h (DqAll.take n t)
theorem DqAll.drop {K : PySem.W.Frag} {H : Hp} : ∀ {vs : List V} {ds : List PyData} (n : Nat), DqAll K H vs ds → DqAll K H (vs.drop n) (ds.drop n)
  | _, _, 0, h => by simpa using h
  | _, _, n + 1, .nil => by simpa using DqAll.nil
  | _, _, n + 1, .cons h t => by
    rw [List.drop_succ_cons, List.drop_succ_cons]
    exact DqAll.drop n t
theorem DqAll.rev {K : PySem.W.Frag} {H : Hp} : ∀ {vs : List V} {ds : List PyData}, DqAll K H vs ds → DqAll K H vs.reverse ds.reverse
  | _, _, .nil => by simpa using DqAll.nil
  | _, _, .cons h t => by
    rw [List.reverse_cons, List.reverse_cons]
    exact DqAll.app (DqAll.rev t) (.cons h .nil)
theorem Dq.tupI {K : PySem.W.Frag} {H : Hp} {v : V} {ds : List PyData} (h : Dq K H v (.tuple ds)) : ∃ a vs, v = .ref a ∧ SqT K H a vs ∧ DqAll K H vs ds := by
  cases h with
  | tup h1 h2 => exact ⟨_, _, rfl, h1, h2⟩
/-! ### what kind a value is of -/
def tyD : PyData → String
  | .none => "NoneType" | .bool _ => "bool" | .int _ => "int" | .str _ => "str" | .list _ => "list" | .tuple _ => "tuple" | .dict _ => "dict"
theorem SqL.ty {K : PySem.W.Frag} {H : Hp} {a : Addr} {xs : List V} (h : SqL K H a xs) : TyX K H (.ref a) (.type "list") := by
  rcases h with (h | ⟨o, h⟩) | ⟨o, its, n, h1, h2, _⟩
  · exact .base (.lst h)
  · exact .base (.frz h)
  · exact .kList h1 h2
theorem Dq.ty {K : PySem.W.Frag} {H H' : Hp} (s : Same H H') {v : V} {d : PyData} (h : Dq K H v d) : TyX K H' v (.type (tyD d)) := by
  cases h with
  | non => exact .base .non
  | bl b => exact .base (.bl b)
  | int i => exact .base (.int i)
  | str x => exact .base (.str x)
  | lst h _ => exact SqL.ty (s.seq h)
  | tup h _ => exact Loc.SqT.ty (sameT s h)
  | dct h _ => exact .base (.dK (s _ _ h))
def isaB (d : PyData) (t : String) : Bool := (kitB (tyD d) t).getD false
theorem isi_any {K : PySem.W.Frag} {H H' : Hp} (s : Same H H') {v : V} {d : PyData} {t : String} {b : Bool} {Q : VK} (h : Dq K H v d) (e : kitB (tyD d) t = some b) (q : Q (.bl b) H') : rIsi K [v, .ty t] H' Q :=
  ⟨_, _, _, _, b, rfl, .ty t, h.ty s, kit_ty e, q⟩
theorem kit_all : kitB "NoneType" "int" = some false ∧ kitB "bool" "int" = some true ∧ kitB "int" "int" = some true ∧ kitB "str" "int" = some false ∧ kitB "list" "int" = some false ∧ kitB "tuple" "int" = some false ∧ kitB "dict" "int" = some false ∧
    kitB "NoneType" "bool" = some false ∧ kitB "bool" "bool" = some true ∧ kitB "int" "bool" = some false ∧ kitB "str" "bool" = some false ∧ kitB "list" "bool" = some false ∧ kitB "tuple" "bool" = some false ∧ kitB "dict" "bool" = some false ∧
    kitB "NoneType" "str" = some false ∧ kitB "bool" "str" = some false ∧ kitB "int" "str" = some false ∧ kitB "str" "str" = some true ∧ kitB "list" "str" = some false ∧ kitB "tuple" "str" = some false ∧ kitB "dict" "str" = some false ∧
    kitB "NoneType" "tuple" = some false ∧ kitB "bool" "tuple" = some false ∧ kitB "int" "tuple" = some false ∧ kitB "str" "tuple" = some false ∧ kitB "list" "tuple" = some false ∧ kitB "tuple" "tuple" = some true ∧ kitB "dict" "tuple" = some false := by decide +kernel
def isIntD : PyData → Bool
  | .int _ => true | .bool _ => true | _ => false
def isBoolD : PyData → Bool
  | .bool _ => true | _ => false
def isStrD : PyData → Bool
  | .str _ => true | _ => false
def isTupD : PyData → Bool
  | .tuple _ => true | _ => false
theorem kit_int (d : PyData) : kitB (tyD d) "int" = some (isIntD d) := by
  obtain ⟨a1, a2, a3, a4, a5, a6, a7, b1, b2, b3, b4, b5, b6, b7, c1, c2, c3, c4, c5, c6, c7, d1, d2, d3, d4, d5, d6, d7⟩ := kit_all
  cases d <;> assumption
theorem kit_bool (d : PyData) : kitB (tyD d) "bool" = some (isBoolD d) := by
  obtain ⟨a1, a2, a3, a4, a5, a6, a7, b1, b2, b3, b4, b5, b6, b7, c1, c2, c3, c4, c5, c6, c7, d1, d2, d3, d4, d5, d6, d7⟩ := kit_all
  cases d <;> assumption
theorem kit_str (d : PyData) : kitB (tyD d) "str" = some (isStrD d) := by
  obtain ⟨a1, a2, a3, a4, a5, a6, a7, b1, b2, b3, b4, b5, b6, b7, c1, c2, c3, c4, c5, c6, c7, d1, d2, d3, d4, d5, d6, d7⟩ := kit_all
  cases d <;> assumption
theorem kit_tup (d : PyData) : kitB (tyD d) "tuple" = some (isTupD d) := by
  obtain ⟨a1, a2, a3, a4, a5, a6, a7, b1, b2, b3, b4, b5, b6, b7, c1, c2, c3, c4, c5, c6, c7, d1, d2, d3, d4, d5, d6, d7⟩ := kit_all
  cases d <;> assumption
end Loc

set_option Elab.async false
set_option linter.all false
set_option maxRecDepth 100000
namespace Loc
open PySem PySem.Spec PyProof.Rows L2
/-! ### how great data may be -/
mutual
def nc (t : Nat) : PyData → Bool
  | .none => true
  | .bool _ => true
  | .int i => decide (i.natAbs ≤ (t + 1) * 10 ^ 60)
  | .str x => decide (x.length ≤ 70 + t) && x.cps.toList.all fun c => decide (c < 16 ^ 8)
  | .list xs => ncAll t xs
  | .tuple xs => ncAll t xs
  | .dict kvs => ncKv t kvs
def ncAll (t : Nat) : List PyData → Bool
  | [] => true
  | x :: r => nc t x && ncAll t r
def ncKv (t : Nat) : List (PyData × PyData) → Bool
  | [] => true
  | (k, v) :: r => nc t k && nc t v && ncKv t r
end
theorem ncAll_mem {t : Nat} : ∀ {ds : List PyData}, ncAll t ds = true ↔ ∀ d ∈ ds, nc t d = true
  | [] => ⟨fun _ d h => (nomatch h), fun _ => by rw [ncAll]⟩
  | x :: r => by
    rw [ncAll, Bool.and_eq_true, ncAll_mem]
    simp
theorem pow_le_mul {t u : Nat} (h : t ≤ u) : (t + 1) * 10 ^ 60 ≤ (u + 1) * 10 ^ 60 := Nat.mul_le_mul_right _ (by omega)
mutual
theorem nc_up {t u : Nat} (l : t ≤ u) : ∀ d : PyData, nc t d = true → nc u d = true
  | .none, _ => by rw [nc]
  | .bool _, _ => by rw [nc]
  | .int i, h => by
    rw [nc] at h ⊢
    exact decide_eq_true (Nat.le_trans (of_decide_eq_true h) (pow_le_mul l))
  | .str x, h => by
    rw [nc, Bool.and_eq_true] at h ⊢
    exact ⟨decide_eq_true (Nat.le_trans (of_decide_eq_true h.1) (by omega)), h.2⟩
  | .list xs, h => by
    rw [nc] at h ⊢
    exact ncAll_up l xs h
  | .tuple xs, h => by
    rw [nc] at h ⊢
    exact ncAll_up l xs h
  | .dict kvs, h => by
    rw [nc] at h ⊢
    exact ncKv_up l kvs h
theorem ncAll_up {t u : Nat} (l : t ≤ u) : ∀ ds : List PyData, ncAll t ds = true → ncAll u ds = true
  | [], _ => by rw [ncAll]
  | x :: r, h => by
    rw [ncAll, Bool.and_eq_true] at h ⊢
    exact ⟨nc_up l x h.1, ncAll_up l r h.2⟩
theorem ncKv_up {t u : Nat} (l : t ≤ u) : ∀ ds : List (PyData × PyData), ncKv t ds = true → ncKv u ds = true
  | [], _ => by rw [ncKv]
  | (k, v) :: r, h => by
    rw [ncKv, Bool.and_eq_true, Bool.and_eq_true] at h ⊢
    exact ⟨⟨nc_up l k h.1.1, nc_up l v h.1.2⟩, ncKv_up l r h.2⟩
end
theorem log_of_nc {t : Nat} {n : Nat} (ht : t ≤ 5) (h : n ≤ (t + 1) * 10 ^ 60) : n < 10 ^ 62 ∧ n.log2 < 1920 := by
  have h1 : (t + 1) * 10 ^ 60 ≤ 6 * 10 ^ 60 := Nat.mul_le_mul_right _ (by omega)
  have h2 : n < 10 ^ 62 := Nat.lt_of_le_of_lt (Nat.le_trans h h1) (by decide)
  refine ⟨h2, ?_⟩
  by_cases e : n = 0
  · rw [e]
    decide
  · exact (Nat.log2_lt e).mpr (Nat.lt_trans h2 (by decide +kernel))
mutual
theorem nc_ok {t : Nat} (ht : t ≤ 5) : ∀ d : PyData, nc t d = true → d.leavesShort 100 = true ∧ d.showable = true
  | .none, _ => by simp [PyData.leavesShort, PyData.showable]
  | .bool _, _ => by simp [PyData.leavesShort, PyData.showable]
  | .int i, h => by
    rw [nc] at h
    obtain ⟨h1, h2⟩ := log_of_nc ht (of_decide_eq_true h)
    refine ⟨?_, ?_⟩
    · rw [PyData.leavesShort]
      have e := int_text_length_le10 (k := 62) (by decide) h1
      refine decide_eq_true ?_
      rw [PyData.shown]
      show (Str.ofString (toString i)).length ≤ 100
      rw [PySem.ofString_length]
      omega
    · rw [PyData.showable]
      exact decide_eq_true h2
  | .str x, h => by
    rw [nc, Bool.and_eq_true] at h
    refine ⟨?_, ?_⟩
    · rw [PyData.leavesShort]
      exact h.2
    · rw [PyData.showable]
  | .list xs, h => by
    rw [nc] at h
    rw [PyData.leavesShort, PyData.showable]
    exact ncAll_ok ht xs h
  | .tuple xs, h => by
    rw [nc] at h
    rw [PyData.leavesShort, PyData.showable]
    exact ncAll_ok ht xs h
  | .dict kvs, h => by
    rw [nc] at h
    rw [PyData.leavesShort, PyData.showable]
    exact ncKv_ok ht kvs h
theorem ncAll_ok {t : Nat} (ht : t ≤ 5) : ∀ ds : List PyData, ncAll t ds = true → PyData.leavesShortAll 100 ds = true ∧ PyData.showableAll ds = true
  | [], _ => by simp [PyData.leavesShortAll, PyData.showableAll]
  | x :: r, h => by
    rw [ncAll, Bool.and_eq_true] at h
    have h1 := nc_ok ht x h.1
    have h2 := ncAll_ok ht r h.2
    rw [PyData.leavesShortAll, PyData.showableAll, h1.1, h1.2, h2.1, h2.2]
    exact ⟨rfl, rfl⟩
theorem ncKv_ok {t : Nat} (ht : t ≤ 5) : ∀ ds : List (PyData × PyData), ncKv t ds = true → PyData.leavesShortKv 100 ds = true ∧ PyData.showableKv ds = true
  | [], _ => by simp [PyData.leavesShortKv, PyData.showableKv]
  | (k, v) :: r, h => by
    rw [ncKv, Bool.and_eq_true, Bool.and_eq_true] at h
    have h1 := nc_ok ht k h.1.1
    have h2 := nc_ok ht v h.1.2
    have h3 := ncKv_ok ht r h.2
    rw [PyData.leavesShortKv, PyData.showableKv, h1.1, h1.2, h2.1, h2.2, h3.1, h3.2]
    exact ⟨rfl, rfl⟩
end
/-- numbers below 10^60 · (t + 1), texts of about 70 signs, nested at most m times, of at most b items in all -/
def sm (t m b : Nat) (d : PyData) : Prop := nc t d = true ∧ d.depth ≤ m ∧ d.bulk ≤ b
def smB (t m b : Nat) (d : PyData) : Bool := nc t d && decide (d.depth ≤ m) && decide (d.bulk ≤ b)
theorem sm_of {t m b : Nat} {d : PyData} (h : smB t m b d = true) : sm t m b d := by
  unfold smB at h
  rw [Bool.and_eq_true, Bool.and_eq_true] at h
  exact ⟨h.1.1, of_decide_eq_true h.1.2, of_decide_eq_true h.2⟩
theorem sm.up {t m b t' m' b' : Nat} {d : PyData} (h : sm t m b d) (h1 : t ≤ t') (h2 : m ≤ m') (h3 : b ≤ b') : sm t' m' b' d := ⟨nc_up h1 d h.1, Nat.le_trans h.2.1 h2, Nat.le_trans h.2.2 h3⟩
/-- what repr asks of such data -/
theorem rep_any {K : PySem.W.Frag} {H H' : Hp} (s : Same H H') {v : V} {d : PyData} {t m b : Nat} {Q : VK} (h : Dq K H v d) (k : sm t m b d) (ht : t ≤ 5) (hm : m ≤ 62) (hb : b ≤ 160000) (q : Q (.str d.shown) H') : rRepQ K [v] H' Q := by
  obtain ⟨k1, k2, k3⟩ := k
  obtain ⟨e1, e2⟩ := nc_ok ht d k1
  have l := PyData.shown_le_bulk 100 (by decide) d e1
  refine ⟨v, d, rfl, h.up s, e2, by omega, ?_, q⟩
  rw [sizeLine_eq]
  omega
theorem sm_tup {t m b : Nat} {ds : List PyData} (h : ∀ d ∈ ds, sm t m b d) (n : Nat) (hn : ds.length ≤ n) : sm t (m + 1) (n * (b + 1)) (.tuple ds) ∧ sm t (m + 1) (n * (b + 1)) (.list ds) := by
  have k1 : ncAll t ds = true := ncAll_mem.mpr fun d hd => (h d hd).1
  have k2 : PyData.depthAll ds ≤ m := by
    clear k1 hn
    induction ds with
    | nil => simp [PyData.depthAll]
    | cons d r ih =>
      have := ih fun x hx => h x (List.mem_cons_of_mem _ hx)
      have h1 := (h d List.mem_cons_self).2.1
      simp only [PyData.depthAll]
      omega
  have k3 : PyData.bulkAll ds ≤ ds.length * (b + 1) := by
    clear k1 k2 hn
    induction ds with
    | nil => simp [PyData.bulkAll]
    | cons d r ih =>
      have := ih fun x hx => h x (List.mem_cons_of_mem _ hx)
      have h1 := (h d List.mem_cons_self).2.2
      simp only [PyData.bulkAll, List.length_cons, Nat.add_mul]
      omega
  have k4 := Nat.le_trans k3 (Nat.mul_le_mul_right (b + 1) hn)
  refine ⟨⟨?_, ?_, ?_⟩, ?_, ?_, ?_⟩
  · rw [nc]; exact k1
  · rw [PyData.depth]; omega
  · rw [PyData.bulk]; exact k4
  · rw [nc]; exact k1
  · rw [PyData.depth]; omega
  · rw [PyData.bulk]; exact k4
/-! ### terms whose value is known, dicts among them -/
def MQ (K : PySem.W.Frag) (S : Addr → Prop) (σ : L2.St) (H0 : Hp) (te : TE) (d : PyData) : Prop := ∀ (H : Hp) (Q : VK), Same H0 H → (∀ H' v, Same H H' → Dq K (wo S H') v d → Q v H') → te σ H Q
def MQs (K : PySem.W.Frag) (S : Addr → Prop) (σ : L2.St) (H0 : Hp) (ta : TA) (ds : List PyData) : Prop := ∀ (H : Hp) (Q : List V → Hp → Prop), Same H0 H → (∀ H' vs, Same H H' → DqAll K (wo S H') vs ds → Q vs H') → ta σ H Q
section
variable {K : PySem.W.Frag} {S : Addr → Prop} {σ : L2.St} {H0 : Hp}
theorem MQ.non : MQ K S σ H0 (tC .non) .none := fun H Q _ q => q H _ (Same.refl H) .non
theorem MQ.bl (b : Bool) : MQ K S σ H0 (tC (.bl b)) (.bool b) := fun H Q _ q => q H _ (Same.refl H) (.bl b)
theorem MQ.int (i : Int) : MQ K S σ H0 (tC (.int i)) (.int i) := fun H Q _ q => q H _ (Same.refl H) (.int i)
theorem MQ.str (x : Str) : MQ K S σ H0 (tC (.str x)) (.str x) := fun H Q _ q => q H _ (Same.refl H) (.str x)
theorem MQ.v {i : Nat} {v : V} {d : PyData} (h : σ[i]? = some (some v)) (k : Dq K (wo S H0) v d) : MQ K S σ H0 (tVar i) d := fun H Q s q => ⟨v, h, q H v (Same.refl H) (k.up (wo_up s))⟩
theorem MQs.nil : MQs K S σ H0 tNil [] := fun H Q _ q => q H _ (Same.refl H) .nil
theorem MQs.cons {te : TE} {ta : TA} {d : PyData} {ds : List PyData} (h : MQ K S σ H0 te d) (t : MQs K S σ H0 ta ds) : MQs K S σ H0 (tCons te ta) (d :: ds) := fun H Q s q =>
  h H _ s fun H1 v s1 k1 => t H1 _ (s.trans s1) fun H2 vs s2 k2 => q H2 (v :: vs) (s1.trans s2) (.cons (k1.up (wo_up s2)) k2)
theorem wo_new {q : Addr} {H : Hp} {o : HO} (hp : Kp S H) (hq : H q = none) : wo S (upd H q o) q = some o := by
  rw [wo_ne (hp.new hq), upd_same]
theorem MQ.tup {ta : TA} {ds : List PyData} (hp : Kp S H0) (h : MQs K S σ H0 ta ds) (l : ds.length ≤ 1000) : MQ K S σ H0 (tTup ta) (.tuple ds) := fun H Q s q =>
  h H _ s fun H1 vs s1 k1 => ⟨Nat.le_trans (by rw [k1.len]; exact l) (by decide), fun a ha => q _ _ (s1.trans (sameN ha)) (.tup (.inl (.inl (wo_new ((hp.up s).up s1) ha))) (k1.up (wo_up (sameN ha))))⟩
theorem MQ.lst {ta : TA} {ds : List PyData} (hp : Kp S H0) (h : MQs K S σ H0 ta ds) (l : ds.length ≤ 1000) : MQ K S σ H0 (tLst ta) (.list ds) := fun H Q s q =>
  h H _ s fun H1 vs s1 k1 => ⟨Nat.le_trans (by rw [k1.len]; exact l) (by decide), fun a ha => q _ _ (s1.trans (sameN ha)) (.lst (.inl (.inl (wo_new ((hp.up s).up s1) ha))) (k1.up (wo_up (sameN ha))))⟩
theorem MQ.dct0 (hp : Kp S H0) : MQ K S σ H0 tDNewK (.dict []) := fun H Q s q => fun a ha => q _ _ (sameN ha) (.dct (wo_new (hp.up s) ha) .nil)
theorem MQ.dct1 {x : Str} {i : Nat} {v : V} {d : PyData} (hp : Kp S H0) (h : σ[i]? = some (some v)) (k : Dq K (wo S H0) v d) : MQ K S σ H0 (tDisp [(tC (.str x), tVar i)]) (.dict [(.str x, d)]) := fun H Q s q => fun a ha => by
  have hs : Same H (upd (upd H a (.dK [])) a (.dK [(.inr x, v)])) := fun b o e => by
    have hb : b ≠ a := fun z => by rw [z, ha] at e; cases e
    rw [upd_ne hb, upd_ne hb]
    exact e
  refine ⟨v, h, upd_same, [(.inr x, v)], rfl, (show 1 ≤ 15 by decide), ?_⟩
  refine q _ _ hs (.dct ?_ (.cons (k := .inr x) (k.up (wo_up (s.trans hs))) .nil))
  rw [wo_ne ((hp.up s).new ha), upd_same]
  rfl
end
end Loc
namespace Loc
open PySem PySem.Spec PyProof.Rows L2
section
variable {K : PySem.W.Frag} {S : Addr → Prop} {σ : L2.St} {H0 : Hp}
theorem MQ.ofInt {te : TE} {i : Int} (h : ∀ (H : Hp) (Q : VK), Q (.int i) H → te σ H Q) : MQ K S σ H0 te (.int i) := fun H Q _ q => h H _ (q H _ (Same.refl H) (.int i))
/-- a list that is made of such terms -/
theorem lst_new {ta : TA} {ds : List PyData} {H : Hp} {Q : VK} (hp : Kp S H) (h : MQs K S σ H ta ds) (l : ds.length ≤ 1000)
    (q : ∀ H' a vs, Same H H' → H a = none → H' a = some (.lst vs) → DqAll K (wo S H') vs ds → ¬ S a → Q (.ref a) H') : tLst ta σ H Q :=
  h H _ (Same.refl H) fun H1 vs s1 k1 => ⟨Nat.le_trans (by rw [k1.len]; exact l) (by decide), fun a ha => q _ a vs (s1.trans (sameN ha)) (by
    cases e : H a with
    | none => rfl
    | some o => rw [s1 _ _ e] at ha; cases ha) upd_same (k1.up (wo_up (sameN ha))) ((hp.up s1).new ha)⟩
end
end Loc
namespace Loc
open PySem PySem.Spec PyProof.Rows L2
theorem seq_asg {te : TE} {g : TG} {t : TS} {D : Ends} {σ : L2.St} {H : Hp} (h : te σ H fun v H1 => g v σ H1 fun σ' H' => t D σ' H') : tSeq (tAsg te g) t D σ H := h
end Loc
namespace Loc
open PySem PySem.Spec PyProof.Rows L2
/-- isinstance(x, t) and .. -/
theorem and_isi {K : PySem.W.Frag} {i : Nat} {t : String} {u : TT} {σ : L2.St} {H H0 : Hp} {v : V} {d : PyData} {b : Bool} {Q : Bool → Hp → Prop} (h : σ[i]? = some (some v)) (s : Same H0 H) (k : Dq K H0 v d) (e : kitB (tyD d) t = some b) (yes : b = true → u σ H Q) (no : b = false → Q false H) :
    tAnd (tB (tCB (rIsi K) (tCons (tVar i) (tCons (tC (.ty t)) tNil)))) u σ H Q := by
  refine ⟨v, h, ?_⟩
  refine isi_any (b := b) (Q := fun x H1 => ∃ c, x = V.bl c ∧ if c = true then u σ H1 Q else Q false H1) s k e ⟨b, rfl, ?_⟩
  cases b with
  | true =>
    rw [if_pos rfl]
    exact yes rfl
  | false =>
    rw [if_neg Bool.false_ne_true]
    exact no rfl
end Loc
namespace Loc
open PySem PySem.Spec PyProof.Rows L2
theorem nx_of {f : L2.St → Hp → Prop} {rt : VK} {bk ct : L2.St → Hp → Prop} {σ : L2.St} {H : Hp} (h : f σ H) : (Ends.mk f rt bk ct).nx σ H := h
end Loc

set_option Elab.async false
set_option linter.all false
set_option maxRecDepth 100000
set_option maxHeartbeats 2000000
/-! ### an error that was caught, kept as a value -/
namespace Loc
open PySem PySem.Spec PyProof.Rows L2
/-- an error of the class at C, its dict at d -/
def ErrO (C d a : Addr) : HO := .ext fun h => ∃ (oe : Obj) (vs : Array Value), h.get? a = some oe ∧ Zc (.ref C) (some d) oe ∧ oe.data = .fields vs
theorem errO_ok {P : Program} {w : World} {H : Hp} {h : Heap} {C d a : Addr} {oe : Obj} {vs : Array Value} (e : h.get? a = some oe) (z : Zc (.ref C) (some d) oe) (q : oe.data = .fields vs) : ObjOk P w H h a (ErrO C d a) :=
  ⟨⟨oe, vs, e, z, q⟩, ⟨oe, e⟩, fun _ _ ⟨o, v, r1, r2⟩ k => ⟨o, v, k o r1, r2⟩⟩
section
variable {X : Cx} {pins : List (Addr × Obj)} {σ : L2.St} {H : Hp} {s : Shared}
/-- an object that stands there already is looked at from now on -/
theorem Inv.track {a : Addr} {φ : Heap → Prop} (I : Inv X pins σ H s) (na : H a = none) (nL : a ≠ X.env.locals) (n0 : X.s_0.heap.get? a = none) (nP : ∀ p ∈ X.pn ++ pins, p.1 ≠ a) (nC : ∀ x c, X.env.cells.lookup x = some c → c ≠ a)
    (new : ObjOk X.prog X.w (upd H a (.ext φ)) s.heap a (.ext φ)) : Inv X pins σ (upd H a (.ext φ)) s := by
  have far : ∀ {b : Addr} {u : HO}, H b = some u → b ≠ a := fun e z => by
    rw [z, na] at e
    cases e
  have same : ∀ {b : Addr}, b ≠ a → upd H a (.ext φ) b = H b := fun h => upd_ne h
  refine { ok := I.ok, os := I.os, bare := I.bare, base := ?_, loc := I.loc, cell := I.cell, free := ?_, freeC := ?_, pin := ?_, hok := ?_, len := I.len }
  · refine { keep := I.base.keep, slot := I.base.slot, free := ?_, there := I.base.there, tups := ?_, frzs := ?_, tbls := ?_ }
    · intro b o e h1 h2
      have hb : b ≠ a := fun z => by
        rw [z, n0] at e
        cases e
      rw [same hb]
      exact I.base.free b o e h1 h2
    · intro b xs e
      have k := I.base.tups b xs e
      rw [same (far k)]
      exact k
    · intro b o u e
      have k := I.base.frzs b o u e
      rw [same (far k)]
      exact k
    · intro b ps e
      obtain ⟨more, k⟩ := I.base.tbls b ps e
      exact ⟨more, (same (far k)).trans k⟩
  · exact (same nL.symm).trans I.free
  · intro x c e
    exact (same (nC x c e)).trans (I.freeC x c e)
  · intro p hp
    obtain ⟨e1, e2, e3⟩ := I.pin p hp
    exact ⟨e1, (same (nP p hp)).trans e2, e3⟩
  · intro b u e
    by_cases hb : b = a
    · subst hb
      rw [upd_same] at e
      cases e
      exact new
    · rw [same hb] at e
      exact (I.hok b u e).stay (fun c v _ r => r) (fun c r => (same (far r)).trans r) (fun c xs r => (same (far r)).trans r)
end
/-- what is wished of the body's error by 'except x as n: m = n' -/
def wKeep (K : PySem.W.Frag) (c : Value) (i j : Nat) (Wout : WX) (D : Ends) : WX := fun cls d σ H =>
  ∃ b, PySem.W.exmOne K cls c = some b ∧ (b = true → ∃ C dd, cls = .ref C ∧ d = some dd ∧ ∀ a, H a = none → D.nx (((σ.set i (some (.ref a))).set j (some (.ref a))).set i none) (upd H a (ErrO C dd a))) ∧ (b = false → Wout cls d σ H)
section
variable {X : Cx} {x n m : Str} {c : Value} {i j : Nat} {body : List Stmt} {np pos pos' q1 q2 q3 : Pos} {tb : WX → TS} {Wout : WX}
theorem ps_try_keep (hs : X.stack = X.env :: X.outer) (hf : X.env.frame = some X.env.locals) (hN : X.N.Nodup) (hi : X.N[i]? = some n) (hln : X.env.kindOf n = some .local) (hj : X.N[j]? = some m) (hlm : X.env.kindOf m = some .local) (hij : i < X.N.length) (hne : i ≠ j)
    (hex : X.ex = []) (hc : Names X x c) (tk : Takes X Wout) (hdn : (n == ("__debug__" : Str)) = false := by decide) (hcn : (n == ("__classdict__" : Str)) = false := by decide) 
    (hb : ∀ (W : WX) (pn : List (Addr × Obj)) (xe : Value → Shared → Prop), Takes (X.tr pn xe) W → PassesOwn (model X.prog X.w) X.A X.env xe → PSs (X.tr pn xe) body (tb W)) :
    PS X (.Try body [.ExceptHandler (some (.Name x np)) (some n) [.Assign [.Name m q1] (.Name n q2) q3] pos'] [] [] pos) (fun D σ H => tb (wKeep X.K c i j Wout D) D σ H) := by
  constructor
  intro pins s σ H D I h
  have ok := I.ok
  have frs1 : X.A.frames = some (X.env :: X.outer) := ok.frames.trans (congrArg some hs)
  refine wpAny_Try_except ?_
  let after : Value → Shared → Prop := fun e s1 => wpAny (model X.prog X.w) X.A (noteFrame e X.env) (fun _ s2 => wpAny (model X.prog X.w) X.A (setFlight e none) (fun _ s3 =>
      wpAny (model X.prog X.w) X.A (handleBy e X.env [.ExceptHandler (some (.Name x np)) (some n) [.Assign [.Name m q1] (.Name n q2) q3] pos']) (SP X pins D) X.xe s3) X.xe s2) X.xe s1
  have run := (hb (wKeep X.K c i j Wout D) (X.pn ++ pins) after (fun u s' air => ?_) PassesOwn.looking).run [] s σ H D (I.toTry _) h
  · refine wpAny_mono run (fun f s1 hsp => ?_) (fun e s1 he => he)
    cases f with
    | next =>
      obtain ⟨σ1, H1, J, k⟩ := hsp
      exact wpAny_execs_nil ⟨σ1, H1, J.ofTry ok, k⟩
    | ret u =>
      obtain ⟨v, σ1, H1, J, r, k⟩ := hsp
      exact ⟨v, σ1, H1, J.ofTry ok, r, k⟩
    | brk =>
      obtain ⟨σ1, H1, J, k⟩ := hsp
      exact ⟨σ1, H1, J.ofTry ok, k⟩
    | cont =>
      obtain ⟨σ1, H1, J, k⟩ := hsp
      exact ⟨σ1, H1, J.ofTry ok, k⟩
  · obtain ⟨a, B, sI, pins1, σ1, H1, cls, d, rfl, J0, ground, up, sky, na, os, ag, b, hb1, hyes, hno⟩ := air
    have J : Inv X pins σ1 H1 sI := J0.ofTry ok
    show after (.ref a) s'
    show wpAny (model X.prog X.w) X.A (noteFrame (.ref a) X.env) _ _ _
    have sky1 : Sky B (X.env :: X.outer) a (Zc cls d) X.env.locals s'.heap := hs ▸ sky
    have noB : B.get? a = none := by
      rcases sky1 with z | z | z
      · exact z.2.1
      · exact z.2.1
      · exact z.2.1
    refine Sky.land Zc.steady frs1 hf sky1 fun h3 fly up3 => ?_
    have J3 : Inv X pins σ1 H1 { s' with heap := h3 } := J.landed ground fly.1 (up.trans up3) os ag
    obtain ⟨oe3, vs3, he3, hz3, hd3⟩ := fly.there
    have noFr : a ∉ frs (X.env :: X.outer) := fun hm => by
      obtain ⟨_, o', e', hnf⟩ := fly.2.2.1.mem hm
      rw [he3] at e'
      cases e'
      exact hnf _ hd3
    have noL : a ≠ X.env.locals := fun z => noFr (List.mem_filterMap.mpr ⟨X.env, List.mem_cons_self, by rw [hf, z]⟩)
    have noF : a ∉ X.fs := fun hm => by
      obtain ⟨e, he, k⟩ := List.mem_filterMap.mp hm
      exact noFr (List.mem_filterMap.mpr ⟨e, List.mem_cons_of_mem _ he, k⟩)
    have noI : sI.heap.get? a = none := by
      cases e : sI.heap.get? a with
      | none => rfl
      | some o =>
        have := ground a o e (by rw [hs]; exact noFr)
        rw [noB] at this
        cases this
    have no0 : X.s_0.heap.get? a = none := by
      cases e : X.s_0.heap.get? a with
      | none => rfl
      | some o =>
        obtain ⟨o', e'⟩ := J.base.there a o e (by rw [hex]; exact fun z => nomatch z)
        rw [noI] at e'
        cases e'
    have noP : ∀ p ∈ X.pn ++ pins, p.1 ≠ a := fun p hp z => by
      have e := (J.pin p hp).1
      rw [z, noI] at e
      cases e
    have noC : ∀ y k, X.env.cells.lookup y = some k → k ≠ a := fun y k e z => by
      obtain ⟨v, o, ho, _⟩ := J.cell y k e
      rw [z, noI] at ho
      cases ho
    have S3 := J3.suite he3 hd3 na noL noF
    refine wpAny_handleBy_cons (codeAny_handlers_test ?_) (by intro z; cases z)
    have look := PySem.W.exm_one (M := model X.prog X.w) J3.kIn (fun A Q E s k z => wpAny_typeOf_ref (k _ _ he3) (by rw [hz3.1]; exact z)) hb1
    have named : ∀ {Q : Value → Shared → Prop} {E : Value → Shared → Prop}, Q c { s' with heap := h3 } → wpAny (model X.prog X.w) (X.A.mark (some (.ref a))) (eval (.Name x np) X.env) Q E { s' with heap := h3 } := fun {Q E} z => by
      obtain ⟨g1, g2, g3 | ⟨g3, g4, g5⟩⟩ := hc
      · exact ld_glob (X := X.suite a ((a, oe3) :: (X.pn ++ pins))) S3 g1 g3 z g2
      · exact ld_blt (X := X.suite a ((a, oe3) :: (X.pn ++ pins))) S3 g1 g3 g4 z g5 g2
    refine named (look.here ?_)
    cases b with
    | false =>
      show wpAny _ X.A (handleBy (.ref a) X.env []) _ _ _
      refine wpAny_handleBy_nil ?_
      obtain ⟨_, _, _, oe, vs, T, oT, ts', f1, f2, f3, f4, f5⟩ := id fly
      unfold PySem.passOn
      refine wpAny_bind (wpAny_field f1 f3 f4 ?_)
      have nz : ¬ ((Value.ref T == Value.none) = true) := by simp
      rw [if_neg nz]
      have out : wpAny (model X.prog X.w) X.A (setFlight (.ref a) X.env.frame) (fun _ s4 => wpAny (model X.prog X.w) X.A (throw (.ref a) : Sem Flow) (SP X pins D) X.xe s4) X.xe { s' with heap := h3 } := by
        rw [hf]
        refine HandSPX.setFlight_upZ fly fun h4 held up4 => wpAny_throw (tk _ _ ?_)
        refine ⟨a, B, sI, pins, σ1, H1, cls, d, rfl, J, ground, (up.trans up3).trans up4, .inr (.inr ?_), na, os, ag, hno rfl⟩
        rw [hs]
        exact held
      first
        | exact wpAny_bind (wpAny_pure (wpAny_bind out))
        | exact wpAny_bind out
    | true =>
      obtain ⟨C, dd, rfl, rfl, fin⟩ := hyes rfl
      refine codeAny_handlers_suite_as ?_
      refine HandSPX.lands_againZ fly fun h4 fly4 up4 => ?_
      have J4 : Inv X pins σ1 H1 { s' with heap := h4 } := J.landed ground fly4.1 ((up.trans up3).trans up4) os ag
      obtain ⟨oe4, vs4, he4, hz4, hd4⟩ := fly4.there
      have S4 := J4.suite he4 hd4 na noL noF
      refine store_ok (X := X.suite a ((a, oe4) :: (X.pn ++ pins))) (v := .ref a) S4 hN hi (.inl hln) rfl (fun s5 S5 => ?_) (.inr hln)
      have put : PSs (X.suite a ((a, oe4) :: (X.pn ++ pins))) [.Assign [.Name m q1] (.Name n q2) q3] _ := pss_one (ps_set (i := j) hN hj (.inl hlm) (pe_var (i := i) hi (.inl hln) hdn hcn) (hf := .inr hlm))
      have ht : (σ1.set i (some (V.ref a)))[i]? = some (some (V.ref a)) := by
        rw [List.getElem?_set_self]
        rw [J4.len]
        exact hij
      refine wpAny_mono (put.run [] s5 _ H1 { nx := fun σ' H' => σ' = (σ1.set i (some (.ref a))).set j (some (.ref a)) ∧ H' = H1, rt := fun _ _ => False } S5 ⟨.ref a, ht, rfl, rfl⟩) (fun f s6 hsp => ?_) (fun _ _ z => False.elim z)
      cases f with
      | next =>
        obtain ⟨σ6, H6, S6, rfl, rfl⟩ := hsp
        have e6 := (S6.pin (a, oe4) (List.mem_append_left _ List.mem_cons_self)).1
        have T6 : Inv X pins ((σ1.set i (some (.ref a))).set j (some (.ref a))) (upd H6 a (ErrO C dd a)) s6 := Inv.track (S6.unsuite ok) na noL no0 noP noC (errO_ok e6 hz4 hd4)
        exact gone_ok T6 hN hi hln fun s7 J7 => ⟨_, _, J7, fin a na⟩
      | brk =>
        obtain ⟨_, _, _, z⟩ := hsp
        exact False.elim z
      | cont =>
        obtain ⟨_, _, _, z⟩ := hsp
        exact False.elim z
      | ret u =>
        obtain ⟨_, _, _, _, _, z⟩ := hsp
        exact False.elim z
end
end Loc

set_option Elab.async false
set_option linter.all false
set_option maxRecDepth 100000
set_option maxHeartbeats 2000000
/-! ### what is asked of such an error -/
namespace Loc
open PySem PySem.Spec PyProof.Rows L2
/-- what the class at C must say -/
structure ErrC (K : PySem.W.Frag) (C : Addr) : Prop where
  ga : PySem.W.findIn K (.ref C) "__getattribute__" = some (some (.builtin "BaseException.__getattribute__"))
  gg : PySem.W.findIn K (.ref C) "__getattr__" = some none
  sub : PySem.W.subIn K (.ref C) (.type "BaseException") = some true
  hd : PySem.W.hasDictIn K C = true
  at_ : PySem.W.findIn K (.ref C) "__class__" = some (some (.builtin "object.__class__"))
  get : PySem.W.specialIn K (.builtin "object.__class__") "__get__" = some (some (.builtin "getset_descriptor.__get__"))
  tak : PySem.W.takesIn K (.builtin "object.__class__") = some true
  mro : PySem.W.mroIn K C (.type "object") = some true
theorem ErrC.cl {K : PySem.W.Frag} {C : Addr} (h : ErrC K C) : (PySem.W.clsIn K C).isSome = true := by
  obtain ⟨cd, e, _⟩ := PySem.W.any_some h.hd
  rw [e]
  rfl
/-- such an error stands at a: its class, its attributes -/
def Err (H : Hp) (a C : Addr) (fs : List (Str × V)) : Prop := ∃ d, H a = some (ErrO C d a) ∧ H d = some (.xd fs)
theorem Err.same {H H' : Hp} {a C : Addr} {fs : List (Str × V)} (h : Err H a C fs) (s : Same H H') : Err H' a C fs := let ⟨d, e1, e2⟩ := h; ⟨d, s _ _ e1, s _ _ e2⟩
section
variable {X : Cx} {pins : List (Addr × Obj)} {σ : L2.St} {H : Hp} {s : Shared} {a C : Addr} {fs : List (Str × V)}
theorem Err.inst (I : Inv X pins σ H s) (h : Err H a C fs) : ∃ oe od, PySem.W.InstAt s.heap a oe C (some od) ∧ ∀ n v, fs.lookup n = some v → ∃ u, PySem.W.lookIn n od = some (some u) ∧ RelV v u := by
  obtain ⟨d, e1, e2⟩ := h
  have k1 : ObjOk X.prog X.w H s.heap a (ErrO C d a) := I.hok a _ e1
  obtain ⟨⟨oe, vs, g1, g2, g3⟩, _, _⟩ := k1
  have k2 : ObjOk X.prog X.w H s.heap d (.xd fs) := I.hok d _ e2
  obtain ⟨mA, ns, rel⟩ := k2
  obtain ⟨od, ho, hl⟩ := lookIn_ns ns
  refine ⟨oe, od, ⟨g1, g2.1, ?_, ?_⟩, fun n v e => ?_⟩
  · unfold PySem.W.notCls
    rw [g3]
  · rw [g2.2]
    exact ho
  · obtain ⟨u, hu, ru⟩ := RelO.some_of (v := v) (o := mA n) (by rw [← e]; exact rel n)
    exact ⟨u, by rw [hl, hu], ru⟩
/-- isinstance(e, c) -/
def rIsV (K : PySem.W.Frag) : List V → Hp → VK → Prop := fun xs H Q => ∃ (a C : Addr) (fs : List (Str × V)) (c : V) (cv : Value) (b : Bool), xs = [.ref a, c] ∧ Err H a C fs ∧ ErrC K C ∧ ClsV c cv ∧ PySem.W.kitOne K (.ref C) cv = some b ∧ Q (.bl b) H
theorem call_isV : CallR X (.builtin "isinstance") (rIsV X.K) := by
  intro pins s σ H xs us Q I r h
  obtain ⟨a, C, fs, c, cv, b, rfl, he, k, hc, e, q⟩ := h
  obtain ⟨u1, u2, rfl, r1, r2⟩ := vals2 r
  have e2 := hc.eq r2
  subst e2
  cases (show u1 = Value.ref a from r1)
  obtain ⟨oe, od, J, _⟩ := he.inst I
  exact PySem.W.kia_one (PySem.W.kitx_exc k.cl k.ga k.gg k.sub k.at_ k.get k.tak k.mro) I.kIn J e (fun z => nomatch z) fun tk => ⟨.bl b, H, I.tok tk, rfl, q⟩
/-- isinstance(e, (c1, c2, ..)) -/
def rIsVT (K : PySem.W.Frag) : List V → Hp → VK → Prop := fun xs H Q => ∃ (a C tp : Addr) (fs : List (Str × V)) (cs : List V) (cvs : List Value) (b : Bool), xs = [.ref a, .ref tp] ∧ Err H a C fs ∧ ErrC K C ∧ H tp = some (.tup cs) ∧ Paired ClsV cs cvs ∧ PySem.W.kitAny K (.ref C) cvs = some b ∧ Q (.bl b) H
theorem call_isVT : CallR X (.builtin "isinstance") (rIsVT X.K) := by
  intro pins s σ H xs us Q I r h
  obtain ⟨a, C, tp, fs, cs, cvs, b, rfl, he, k, hT, hc, e, q⟩ := h
  obtain ⟨u1, u2, rfl, r1, r2⟩ := vals2 r
  cases (show u1 = Value.ref a from r1)
  cases (show u2 = Value.ref tp from r2)
  obtain ⟨oe, od, J, _⟩ := he.inst I
  have kT : ObjOk X.prog X.w H s.heap tp (.tup cs) := I.hok tp _ hT
  obtain ⟨_, its, rv, o, h1, h2, n, h3⟩ := kT
  have e3 := ClsV.all hc rv
  subst e3
  obtain ⟨oc, od', dt, sl⟩ := o
  simp only at h2 h3
  subst h2 h3
  exact PySem.W.kia_tup (PySem.W.kitx_exc k.cl k.ga k.gg k.sub k.at_ k.get k.tak k.mro) I.kIn J h1 e (fun z => nomatch z) fun tk => ⟨.bl b, H, I.tok tk, rfl, q⟩
/-- e.f -/
def tErrF (K : PySem.W.Frag) (f : Str) (te : TE) : TE := fun σ H Q => te σ H fun x H1 => ∃ (a C : Addr) (fs : List (Str × V)) (v : V), x = .ref a ∧ Err H1 a C fs ∧ ErrC K C ∧ PySem.W.findIn K (.ref C) f = some none ∧ fs.lookup f = some v ∧ Q v H1
theorem pe_errf {e : Expr} {te : TE} {pos : Pos} {n : Str} (he : PE X e te) (hb : attributeBase e n X.env (eval e X.env) = eval e X.env := by rfl) : PE X (.Attribute e n pos) (tErrF X.K n te) := by
  constructor
  intro pins s σ H Q I h
  refine attr_of hb (thn (he.run pins s σ H _ I h) fun u s1 hu => ?_)
  obtain ⟨x, H1, I1, rx, a, C, fs, v, rfl, hE, k, hno, hl, q⟩ := hu
  cases (show u = Value.ref a from rx)
  obtain ⟨oe, od, J, look⟩ := hE.inst I1
  obtain ⟨u, hu, ru⟩ := look n v hl
  exact HandSPX.exc_get I1.kIn J k.ga k.gg k.sub (PySem.W.findObj_own k.hd hno rfl hu) (handed_of ru) ⟨v, H1, I1.tok _, ru, q⟩
end
end Loc

set_option Elab.async false
set_option linter.all false
set_option maxRecDepth 100000
/-! ### the law's call where tables of code objects are written -/
namespace Loc
open PySem PySem.Spec PyProof.Rows L2 LamX
/-- what is known of the code objects and their tables before the call -/
structure TabsOk (K : PySem.W.Frag) (h : Heap) (cs : List (Addr × Addr)) : Prop where
  emp : ∀ p ∈ cs, h.get? p.2 = some { cls := .none, data := .fields #[] }
  out : ∀ p ∈ cs, K.lookup p.2 = none
  hd : ∀ p ∈ cs, PySem.W.CodeHd h p.1 p.2
theorem callGT {P : Program} {w : World} {K : PySem.W.Frag} {mg mb : Str → Option Value} {k : Nat} {fa a : Addr} {fd : FuncData} {x : Str} {sp : Sp} {s : Shared} {vs : List Value} {ns : List Int} {cs : List (Addr × Addr)}
    (KX : K.In s.heap) (g1 : s.heap.Ns mainGlobals mg) (g2 : s.heap.Ns builtinsNs mb) (g3 : ∀ x : Str, x ≠ "__name__" → mb x = bootBuiltins x) (lim : s.heap.NoLimit) (gs : s.gens = #[]) (T : TabsOk K s.heap cs)
    (bm : ∃ (bm : Addr) (ob : Obj), mg "__builtins__" = some (.ref bm) ∧ bm ≠ builtinsNs ∧ s.heap.get? bm = some ob ∧ ob.cls = .type "module" ∧ ob.dict = some builtinsNs ∧ ob.data = .plain)
    (ha : s.heap.get? a = some { cls := .type "list", data := .seq vs.toArray }) (hi : IntsAre vs ns) (hl : ns.length ≤ sizeLine) (hr : Room k callerA)
    (F : ∀ base : Heap, K.In base → base.Ns mainGlobals mg → (∀ p ∈ cs, TabB base mg p.1 p.2) → FnG P w K mg base CX0 k fa fd [x] sp) (hb : ∀ (s : Shared) (u : Value), BindsTo s fd ⟨[u], []⟩ [(x, u)])
    (hsp : ∀ H : Hp, SqL K H a (ns.map V.int) → (∀ p ∈ cs, H p.2 = some (.tbl #[])) → sp [.ref a] H (fun v _ => v = .bl true) fun _ _ _ => False) :
    codeAny (model P w) callerA (.call (.ref fa) ⟨[.ref a], []⟩) (fun r s' => r = .ok (.ret (.bool true)) ∧ OldK s.heap s'.heap ∧ s'.os = s.os ∧ AllBare s'.gens) s := by
  have rv := vals_ints hi
  have ln := hi.length
  have at_tab : ∀ {b : Addr} {o : Obj}, s.heap.get? b = some o → o.data ≠ .fields #[] → ∀ p ∈ cs, b ≠ p.2 := fun e nd p hp z => by
    rw [z, T.emp p hp] at e
    cases e
    exact nd rfl
  have a_tab : ∀ p ∈ cs, a ≠ p.2 := at_tab ha (fun z => by cases z)
  have main : ∀ H : Hp, (∀ b, H b = none ∨ (b = a ∧ K.lookup a = none ∧ ∃ o xs, H b = some (.frz o (.lst xs))) ∨ ∃ p ∈ cs, b = p.2 ∧ H b = some (.tbl #[])) → (∀ p ∈ cs, H p.2 = some (.tbl #[])) → SqL K H a (ns.map V.int) → HOk P w H s.heap →
      codeAny (model P w) callerA (.call (.ref fa) ⟨[.ref a], []⟩) (fun r s' => r = .ok (.ret (.bool true)) ∧ OldK s.heap s'.heap ∧ s'.os = s.os ∧ AllBare s'.gens) s := by
    intro H only tabs sq hok
    have seen : ∀ {b : Addr} {o : Obj}, s.heap.get? b = some o → (∀ vs n, o.data ≠ .seq vs n) → o.data ≠ .fields #[] → (hidT s.heap H).get? b = some o := fun {b o} e d1 d2 => hidT_get e (by
      rcases only b with z | ⟨rfl, _, _⟩ | ⟨p, hp, z, _⟩
      · exact z
      · rw [ha] at e
        cases e
        exact absurd rfl (d1 _ _)
      · exact absurd z (at_tab e d2 p hp))
    have nsOf : ∀ {b : Addr} {m : Str → Option Value}, s.heap.Ns b m → (hidT s.heap H).Ns b m := by
      rintro b m ⟨o, es, ep, e, d, r⟩
      refine ⟨o, es, ep, seen e (fun vs n z => ?_) (fun z => ?_), d, r⟩
      · rw [d] at z
        cases z
      · rw [d] at z
        cases z
    have kb : K.In (hidT s.heap H) := fun b o e => hidT_get (KX b o e) (by
      rcases only b with z | ⟨rfl, z, _⟩ | ⟨p, hp, z, _⟩
      · exact z
      · rw [z] at e
        cases e
      · rw [z, T.out p hp] at e
        cases e)
    have TB : ∀ p ∈ cs, TabB (hidT s.heap H) mg p.1 p.2 := fun p hp => by
      refine ⟨?_, ?_, fun z => ?_⟩
      · obtain ⟨o, us, file, tf, flags, tg, inF, text, tt, e1, r1, r2, r3, r⟩ := T.hd p hp
        refine ⟨o, us, file, tf, flags, tg, inF, text, tt, seen e1 (fun vs n z => ?_) (fun z => ?_), r1, r2, r3, r⟩
        · rw [r2] at z
          cases z
        · rw [r2] at z
          cases z
          simp at r3
      · obtain ⟨bm, ob, b1, b2, b3, b4, b5, b6⟩ := bm
        have hb3 : (hidT s.heap H).get? bm = some ob := seen b3 (fun vs n z => by rw [b6] at z; cases z) (fun z => by rw [b6] at z; cases z)
        refine ⟨bm, ob, b1, b2, fun z => ?_, fun z => ?_, hb3, b4, b5, b6⟩
        · obtain ⟨o, es, ep, e, d, _⟩ := g1
          rw [z, e] at b3
          cases b3
          rw [d] at b6
          cases b6
        · rw [z, T.emp p hp] at b3
          cases b3
          cases b6
      · obtain ⟨o, es, ep, e, d, _⟩ := g1
        rw [z, T.emp p hp] at e
        cases e
        cases d
    obtain ⟨mc, l1, l2⟩ := lim
    have e0 : Env0 P w K mg (hidT s.heap H) callerA [] s H :=
      { frames := rfl, mod := ⟨kb, nsOf g1, ⟨mb, nsOf g2, g3⟩, ⟨mc, nsOf l1, l2⟩⟩, bs := fun _ _ e => of_hidT e, bsz := Nat.le_of_eq (hidT_size _ _), funs := trivial,
        frf := fun b hb => absurd (show b ∈ ([] : List Addr) from hb) List.not_mem_nil, hok := hok, bare := .of_eq gs }
    refine codeAny_mono ((F _ kb (nsOf g1) TB).go (us := [.ref a]) (vs := [.ref a]) rfl hr e0 (hb s (.ref a)) (.cons rfl .nil) (hsp H sq tabs)) fun r s' h => ?_
    match r, h with
    | .error e, h => exact h.elim
    | .ok .next, h => exact h.elim
    | .ok .brk, h => exact h.elim
    | .ok .cont, h => exact h.elim
    | .ok (.ret u), ⟨v, H', os, bare, un, hok', rel, q⟩ =>
      have q' : v = .bl true := q
      subst q'
      have ru : u = Value.bool true := rel
      subst ru
      have grown : ∀ p ∈ cs, ∃ more : Array Value, s'.heap.get? p.2 = some { cls := .none, data := .fields more } := fun p hp => by
        obtain ⟨more, z⟩ := un.tbls p.2 #[] (tabs p hp)
        exact ⟨_, hok' p.2 _ z⟩
      have kept : ∀ b o, s.heap.get? b = some o → (∀ p ∈ cs, b ≠ p.2) → s'.heap.get? b = some o := fun b o e nt => by
        rcases only b with z | ⟨_, _, ob, xs, z⟩ | ⟨p, hp, z, _⟩
        · exact un.keep b o e z (fun m => absurd (show b ∈ ([] : List Addr) from m) List.not_mem_nil) List.not_mem_nil
        · have o1 := (hok b _ z).1
          have o2 := (hok' b _ (un.frzs b ob _ z)).1
          rw [e] at o1
          cases o1
          exact o2
        · exact absurd z (nt p hp)
      refine ⟨rfl, ⟨fun b o e => ?_, fun b o e => ?_⟩, os, bare⟩
      · by_cases hb : ∃ p ∈ cs, b = p.2
        · obtain ⟨p, hp, rfl⟩ := hb
          obtain ⟨more, hm⟩ := grown p hp
          have e1 := T.emp p hp
          rw [e1] at e
          cases e
          exact .inr (.inl ⟨((T.hd p hp).tab e1).isCodeTable, rfl, #[], more, rfl, by rw [Array.empty_append]; exact hm⟩)
        · exact .inl (kept b o e fun p hp z => hb ⟨p, hp, z⟩)
      · by_cases hb : ∃ p ∈ cs, b = p.2
        · obtain ⟨p, hp, rfl⟩ := hb
          obtain ⟨more, hm⟩ := grown p hp
          exact ⟨_, hm⟩
        · exact ⟨o, kept b o e fun p hp z => hb ⟨p, hp, z⟩⟩
  open Classical in
  let tabH : Hp := fun b => if ∃ p ∈ cs, b = p.2 then some (.tbl #[]) else none
  have tab1 : ∀ p ∈ cs, tabH p.2 = some (.tbl #[]) := fun p hp => if_pos ⟨p, hp, rfl⟩
  have tab0 : ∀ b, tabH b = none ∨ ∃ p ∈ cs, b = p.2 ∧ tabH b = some (.tbl #[]) := fun b => by
    by_cases e : ∃ p ∈ cs, b = p.2
    · obtain ⟨p, hp, z⟩ := e
      exact .inr ⟨p, hp, z, if_pos ⟨p, hp, z⟩⟩
    · exact .inl (if_neg e)
  have tabOk : ∀ b u, tabH b = some u → ObjOk P w tabH s.heap b u → True := fun _ _ _ _ => trivial
  cases hk : K.lookup a with
  | some o =>
    have e := KX a o hk
    rw [ha] at e
    cases e
    refine main tabH (fun b => (tab0 b).imp id .inr) tab1 (.inr ⟨_, vs.toArray, _, hk, rfl, rfl, rfl, ?_, by simpa using rv⟩) fun b u z => ?_
    · rw [List.size_toArray, ln]
      exact hl
    · rcases tab0 b with e | ⟨p, hp, e1, e2⟩
      · rw [e] at z
        cases z
      · rw [e2] at z
        cases z
        show s.heap.get? b = _
        rw [e1]
        exact T.emp p hp
  | none =>
    have na : tabH a = none := if_neg fun ⟨p, hp, z⟩ => a_tab p hp z
    refine main (upd tabH a (.frz { cls := .type "list", data := .seq vs.toArray } (.lst (ns.map V.int)))) (fun b => ?_) (fun p hp => by rw [upd_ne (a_tab p hp).symm]; exact tab1 p hp) (.inl (.inr ⟨_, upd_same⟩)) fun b u z => ?_
    · by_cases e : b = a
      · exact .inr (.inl ⟨e, hk, _, _, by rw [e]; exact upd_same⟩)
      · rw [upd_ne e]
        exact (tab0 b).imp id .inr
    · by_cases e : b = a
      · subst e
        rw [upd_same] at z
        cases z
        exact ⟨ha, by rw [List.length_map]; exact hl, vs, _, rv, ha⟩
      · rw [upd_ne e] at z
        rcases tab0 b with e0 | ⟨p, hp, e1, e2⟩
        · rw [e0] at z
          cases z
        · rw [e2] at z
          cases z
          show s.heap.get? b = _
          rw [e1]
          exact T.emp p hp
/-- the goal that k_head leaves, from such a promise of the law's def; the tables of the defs that are named -/
theorem walkGT {l : PySem.W.OpenLaw} {n k : Nat} {q : Program} {loose : List Str} {XP : (Str → Option Value) → Heap → Prop} {YP : World → Heap → Prop} {d : DefRec} {K : Params → PySem.W.Frag} {sp : PySem.W.Frag → List (Addr × Addr) → Sp} {x : Str} (names : List Str)
    (hn : l.most = some n) (hz : n ≤ sizeLine) (hd : d.params.defaults = []) (hr : Room k callerA) (hnm : ∀ y ∈ names, ((recsOf q).find? fun e => e.name == y).isSome = true) (hY : ∀ (w : World) (h : Heap), YP w h → (K w.params).In h)
    (F : ∀ (w : World) (mg : Str → Option Value) (fa : Addr) (h : Heap), (K w.params).In h → h.Ns mainGlobals mg → mg d.name = some (.ref fa) →
      ∃ (fd : FuncData) (cs : List (Addr × Addr)), (∀ p ∈ cs, (K w.params).lookup p.2 = none ∧ ∃ y ∈ names, PySem.W.tabIn (K w.params) y = some p) ∧ (∀ (s : Shared) (u : Value), BindsTo s fd ⟨[u], []⟩ [(x, u)]) ∧
        (∀ (H : Hp) (a : Addr) (ns : List Int), ns.length ≤ n → SqL (K w.params) H a (ns.map V.int) → (∀ p ∈ cs, H p.2 = some (.tbl #[])) → sp (K w.params) cs [.ref a] H (fun v _ => v = .bl true) fun _ _ _ => False) ∧
        ∀ base : Heap, (K w.params).In base → base.Ns mainGlobals mg → (∀ p ∈ cs, TabB base mg p.1 p.2) → FnG l.prog w (K w.params) mg base CX0 k fa fd [x] (sp (K w.params) cs)) :
    PySem.W.WalkO q loose XP YP l.row.toRowW d [] (fun f vs => PySem.call f vs) := by
  refine Att.attach_call hn hd fun w s0 s1 mg mb fa o pm cd doc a vs ns G Y ho hd' hcd hmg hobj hints hlen hg => ?_
  have KX := hY w _ Y
  obtain ⟨fd, cs, hc, hb, hsp, hF⟩ := F w mg fa _ KX G.T.g hmg
  have T : TabsOk (K w.params) s1.heap cs := by
    have key : ∀ p ∈ cs, PySem.W.CodeHd s1.heap p.1 p.2 ∧ s1.heap.get? p.2 = some { cls := .none, data := .fields #[] } := fun p hp => by
      obtain ⟨_, y, hy, ht⟩ := hc p hp
      obtain ⟨d', hd2⟩ := Option.isSome_iff_exists.mp (hnm y hy)
      exact PySem.W.tab_of G.T KX hd2 ht
    exact ⟨fun p hp => (key p hp).2, fun p hp => (hc p hp).1, fun p hp => (key p hp).1⟩
  exact callGT KX G.T.g G.T.b G.T.builtins G.T.nolimit hg T G.T.bmain hobj hints (Nat.le_trans hlen hz) hr hF hb fun H hS ht => hsp H a ns hlen hS ht
end Loc

set_option Elab.async false
set_option linter.all false
set_option maxRecDepth 100000
/-! ### what the end of a law finds of its classes and of its defs' tables -/
namespace Loc
open PySem PySem.Spec PyProof.Rows L2
variable {K : PySem.W.Frag}
theorem tab_mk {x : Str} {f c Pt : Addr} {oc oc2 : Value} {od od2 : Option Addr} {fd : FuncData} {sl sl2 : Array (Option Value)} {vs : Array Value} (a : PySem.W.nsIn K mainGlobals x = some (some (.ref f))) (l : K.lookup f = some ⟨oc, od, .func fd, sl⟩) (hc : fd.code = .ref c)
    (o : K.lookup c = some ⟨oc2, od2, .fields vs, sl2⟩) (v : vs[11]? = some (.ref Pt)) : PySem.W.tabIn K x = some (c, Pt) := by
  unfold PySem.W.tabIn
  rw [a]
  simp only
  rw [l]
  simp only
  rw [hc]
  simp only
  rw [o]
  simp only
  rw [v]
theorem kit_self {A : Addr} : PySem.W.kitOne K (.ref A) (.ref A) = some true := by
  unfold PySem.W.kitOne
  rw [if_pos (by simp)]
theorem kit_no {A B : Addr} {b : Bool} (n : (A == B) = false) (hd : PySem.W.hasDictIn K B = true) (ty : PySem.W.typeIn K (.ref B) = some (.type "type")) (s : PySem.W.subIn K (.ref A) (.ref B) = some b) : PySem.W.kitOne K (.ref A) (.ref B) = some b := by
  obtain ⟨cd, e, _⟩ := PySem.W.any_some hd
  have e1 : (Value.ref A == Value.ref B) = false := by
    have ne : A ≠ B := fun z => by rw [z, beq_self_eq_true] at n; exact Bool.noConfusion n
    exact beq_eq_false_iff_ne.mpr fun z => ne (Value.ref.inj z)
  unfold PySem.W.kitOne PySem.W.kitCls
  rw [e1, if_neg Bool.false_ne_true]
  simp only
  rw [e, ty]
  rw [if_pos (by rfl)]
  exact s
theorem kit_any2 {t a b : Value} (h1 : PySem.W.kitOne K t a = some false) (h2 : PySem.W.kitOne K t b = some false) : PySem.W.kitAny K t [a, b] = some false := by
  simp [PySem.W.kitAny, h1, h2]
end Loc

set_option Elab.async false
set_option linter.all false
set_option maxRecDepth 100000
/-! ### classes and a builtin class -/
namespace Loc
open PySem PySem.Spec PyProof.Rows L2
variable {K : PySem.W.Frag}
theorem kit_typ {A : Addr} {t : String} {b : Bool} (m : PySem.W.kitMeta t = true) (s : PySem.W.subIn K (.ref A) (.type t) = some b) : PySem.W.kitOne K (.ref A) (.type t) = some b := by
  have e1 : (Value.ref A == Value.type t) = false := beq_eq_false_iff_ne.mpr fun z => nomatch z
  unfold PySem.W.kitOne PySem.W.kitCls
  rw [e1, if_neg Bool.false_ne_true]
  simp only
  rw [if_pos m]
  exact s
theorem kit_more {t a : Value} {r : List Value} (h1 : PySem.W.kitOne K t a = some false) (h2 : PySem.W.kitAny K t r = some false) : PySem.W.kitAny K t (a :: r) = some false := by
  simp [PySem.W.kitAny, h1, h2]
theorem kit_hit {t a : Value} {r : List Value} (h1 : PySem.W.kitOne K t a = some true) : PySem.W.kitAny K t (a :: r) = some true := by
  simp [PySem.W.kitAny, h1]
theorem kit_end {t : Value} : PySem.W.kitAny K t [] = some false := by
  simp [PySem.W.kitAny]
end Loc

set_option Elab.async false
set_option linter.all false
set_option maxRecDepth 100000
set_option maxHeartbeats 2000000
/-! ### errors with one value, or two: made and raised -/
namespace Loc
open PySem PySem.Spec PyProof.Rows L2
/-- the first def of a class -/
def initOf (st : Stmt) : Stmt := match st with
  | .ClassDef _ _ _ b _ _ _ _ _ _ _ => b.getD 0 (.Pass ⟨0, 0, 0, 0⟩)
  | s => s
/-- what is known of an error class with one value -/
structure Cls1 (K : PySem.W.Frag) (mg : Str → Option Value) (x q f : Str) (st : Stmt) (C fI : Addr) (fd : FuncData) : Prop where
  g : mg x = some (.ref C)
  ox : OexC K C
  er : ErrC K C
  no : PySem.W.findIn K (.ref C) f = some none
  iC : PySem.W.findIn K (.ref C) "__init__" = some (some (.ref fI))
  tI : PySem.W.typeIn K (.ref fI) = some (.type "function")
  F : Fun K "__init__" q st fI fd
  b : Binds K fd ["self", f] []
def spInit1 (K : PySem.W.Frag) (C : Addr) (f : Str) : Sp := fun vs H Q _ => ∃ (a : Addr) (v : V), vs = [.ref a, v] ∧ OexC K C ∧ H a = some (exo a C none) ∧ PySem.W.findIn K (.ref C) f = some none ∧
  ∀ dx, H dx = none → dx ≠ a → Q .non (upd (upd H dx (exd dx [(f, v)])) a (exo a C (some dx)))
theorem mk_one {K : PySem.W.Frag} {C : Addr} {f : Str} {v : V} {H : Hp} {Q : XK} (ox : OexC K C) (no : PySem.W.findIn K (.ref C) f = some none) (q : ∀ d, H d = none → Q (.ref C) (some d) (upd H d (.xd [(f, v)]))) :
    [v].length ≤ 1000 ∧ ∀ a, H a = none → spInit1 K C f (.ref a :: ([v] ++ [])) (upd H a (exo a C none))
      (fun v' H2 => v' = .non ∧ ∃ (d : Addr) (fs : List (Str × V)), H2 a = some (exo a C (some d)) ∧ H2 d = some (exd d fs) ∧ H d = none ∧ Q (.ref C) (some d) (upd (L2.del H2 a) d (.xd fs))) (fun _ _ _ => False) := by
  refine ⟨(by show 1 ≤ 1000; decide), fun a na => ⟨a, v, rfl, ox, upd_same, no, fun dx n ne => ⟨rfl, dx, [(f, v)], upd_same, by rw [upd_ne ne, upd_same], by rw [upd_ne ne] at n; exact n, ?_⟩⟩⟩
  have n' : H dx = none := by rw [upd_ne ne] at n; exact n
  have e : upd (L2.del (upd (upd (upd H a (exo a C none)) dx (exd dx [(f, v)])) a (exo a C (some dx))) a) dx (.xd [(f, v)]) = upd H dx (.xd [(f, v)]) := by
    funext b
    by_cases h1 : b = dx
    · rw [h1, upd_same, upd_same]
    · rw [upd_ne h1, upd_ne h1]
      by_cases h2 : b = a
      · rw [h2, L2.del_same, na]
      · rw [L2.del_ne h2, upd_ne h2, upd_ne h1, upd_ne h2]
  rw [e]
  exact q dx n'
/-- .. with two values -/
structure Cls2 (K : PySem.W.Frag) (mg : Str → Option Value) (x q f g' : Str) (st : Stmt) (C fI : Addr) (fd : FuncData) : Prop where
  g : mg x = some (.ref C)
  ox : OexC K C
  er : ErrC K C
  no : PySem.W.findIn K (.ref C) f = some none
  no2 : PySem.W.findIn K (.ref C) g' = some none
  iC : PySem.W.findIn K (.ref C) "__init__" = some (some (.ref fI))
  tI : PySem.W.typeIn K (.ref fI) = some (.type "function")
  F : Fun K "__init__" q st fI fd
  b : Binds K fd ["self", f, g'] []
section
variable {X : Cx} {W : WX} {x f q : Str} {st : Stmt} {C fI : Addr} {fd : FuncData} {k : Nat} {e : Expr} {te : TE} {p pos pos2 : Pos}
/-- raise x(e) -/
theorem ps_raise1 (hc : X.calm = true) (tk : Takes X W) (T : Cls1 X.K X.mg x q f st C fI fd) (F1 : FnOk X.prog X.w X.K X.mg X.base CX0 k fI fd ["self", f] (spInit1 X.K C f)) (hr : Room (k + 1) X.A) (ha : PE X e te) (hg : Gl X x := by rfl)
    (hdb : (x == ("__debug__" : Str)) = false := by decide) (he : starEach (e :: []) X.env = (false, eval e X.env) :: starEach [] X.env := by rfl) (hpl : (backTo pos (starEach [] X.env)).any (·.1) = false := by rfl) :
    PS X (.Raise (some (.Call (.Name x p) [e] [] pos)) none pos2) (fun _ σ H => tMkO C (spInit1 X.K C f) [] (tCons te tNil) σ H fun cls d H' => W cls d σ H') :=
  ps_raise hc tk (pmk_oex T.ox T.iC T.tI F1 hr T.b .nil pass0 hg T.g (pa_cons ha pa_nil he) hdb he hpl)
end
end Loc

set_option Elab.async false
set_option linter.all false
set_option maxRecDepth 100000
namespace Loc
open PySem PySem.Spec PyProof.Rows L2 LamX
theorem takes_len {X : Cx} {W : WX} {n : Nat} (hn : X.N.length = n) (tk : Takes X W) : Takes X (fun cls d σ H => σ.length = n → W cls d σ H) := fun u s' ⟨a, B, sI, pins, σ, H, cls, d, e, I, nb, up, sky, na, os, ag, w⟩ =>
  tk u s' ⟨a, B, sI, pins, σ, H, cls, d, e, I, nb, up, sky, na, os, ag, w (I.len.trans hn)⟩
/-- all but p and the tables of code objects stays -/
def BT (p : Addr) (H H' : Hp) : Prop := ∀ b o, b ≠ p → H b = some o → (∀ ps, o ≠ .tbl ps) → H' b = some o
theorem BT.of {p : Addr} {H H' : Hp} (h : But p H H') : BT p H H' := fun b o n e _ => h b o n e
theorem BT.ext {p : Addr} {H H' : Hp} (h : ExtN H H') : BT p H H' := fun b o _ e t => h b o e t
theorem BT.trans {p : Addr} {H H1 H2 : Hp} (a : BT p H H1) (b : BT p H1 H2) : BT p H H2 := fun c o n e t => b c o n (a c o n e t) t
theorem BT.sql {p a : Addr} {K : PySem.W.Frag} {H H' : Hp} {xs : List V} (e : BT p H H') (n : a ≠ p) (h : SqL K H a xs) : SqL K H' a xs := by
  rcases h with (h | ⟨o, h⟩) | h
  · exact .inl (.inl (e _ _ n h (fun _ z => by cases z)))
  · exact .inl (.inr ⟨o, e _ _ n h (fun _ z => by cases z)⟩)
  · exact .inr h
theorem ext_sqt {K : PySem.W.Frag} {H H' : Hp} {a : Addr} {xs : List V} (e : ExtN H H') (h : SqT K H a xs) : SqT K H' a xs := by
  rcases h with (h | ⟨o, h⟩) | h
  · exact .inl (.inl (e _ _ h (fun _ z => by cases z)))
  · exact .inl (.inr ⟨o, e _ _ h (fun _ z => by cases z)⟩)
  · exact .inr h
theorem ext_tups {K : PySem.W.Frag} {H H' : Hp} (e : ExtN H H') : Tups K H H' := fun a xs h => ext_sqt e h
theorem ext_pot {H H' : Hp} (e : ExtN H H') {p : Addr} {c : Nat} (h : Pot H p c) : Pot H' p c := by
  obtain ⟨o, e1, a, b, z, rfl, r⟩ := h
  exact ⟨_, e _ _ e1 (fun _ q => by cases q), a, b, z, rfl, r⟩
theorem ext_same {H H' : Hp} (e : Same H H') : ExtN H H' := fun b o h _ => e b o h
theorem tabs_but {T : List (Addr × Str)} {p : Addr} {H H' : Hp} {c : Nat} (t : Tabs T H) (e : But p H H') (hp : Pot H p c) : Tabs T H' := fun x hx => by
  obtain ⟨ps, h1, h2, h3⟩ := t x hx
  obtain ⟨o, ho, own, mix, cnt, rfl, _⟩ := hp
  refine ⟨ps, e _ _ (fun z => by rw [z, ho] at h1; cases h1) h1, h2, fun pos cv hc => ?_⟩
  obtain ⟨k, e1, e2⟩ := h3 pos cv hc
  exact ⟨k, e1, e _ _ (fun z => by rw [z, ho] at e2; cases e2) e2⟩
theorem tabs_same {T : List (Addr × Str)} {H H' : Hp} (t : Tabs T H) (e : Same H H') : Tabs T H' := t.ext e
end Loc
namespace Loc
open PySem PySem.Spec PyProof.Rows L2 LamX
section
variable {P : Program} {w : World} {K : PySem.W.Frag} {mg : Str → Option Value} {base : Heap} {CX : CXT} {k : Nat} {f : Addr} {fd : FuncData} {ps : List Str} {sp : Sp}
/-- as fun_okG, the code object known -/
theorem fun_okGC {x qual : Str} {st : Stmt} {N : List Str} {c : Addr} (F : Fun K x qual st f fd) (code : fd.code = .ref c) (S : FnScope N ps (defScope st)) (len : ∀ vs H Q E, sp vs H Q E → vs.length = ps.length)
    (hb : ∀ (A : Around) (out : List Env) (s : Shared) (H : Hp) (vs : List V) (Q : VK) (E : XK), A.guards = some [] → Room k (A.deeper (envOfC qual (defScope st) s.heap.objs.size f (.ref c))) → sp vs H Q E →
      ∃ t, PSs (cxOf CX P w K mg base N qual (defScope st) f (.ref c) A out s H E).nox (defBody st) t ∧ t { nx := fun _ H' => Q .non H', rt := Q } (L2.start N vs) H) :
    FnG P w K mg base CX (k + 1) f fd ps sp := by
  obtain ⟨⟨oc, od, kV, doc, pm, an, cdv, ct, osl, e, lk, hcd⟩, kp⟩ := F
  have e1 : cdv = .ref c := by
    rw [e] at code
    exact code
  subst e1
  refine ⟨fun h => len _ _ _ _ h, fun {A out s H ar us vs Q E} hg hr e0 hbd r hsp => ?_⟩
  subst e
  refine run_ofS lk hcd S hr e0 hbd r (len _ _ _ _ hsp) fun hr' => ?_
  obtain ⟨t, ht, hq⟩ := hb A out s H vs Q E hg hr' hsp
  exact ⟨t, ht.nox, hq⟩
end
end Loc

set_option Elab.async false
set_option linter.all false
set_option maxRecDepth 100000
/-! ### the text of data holds signs alone; data where tables of code objects are written -/
namespace Loc
open PySem PySem.Spec PyProof.Rows L2
theorem txt_ok (s : String) : PyData.strOk (Str.ofString s) = true := by
  unfold PyData.strOk
  rw [Array.all_eq_true_iff_forall_mem]
  intro x hx
  unfold Str.ofString at hx
  rw [cpsOfBytes_string] at hx
  obtain ⟨c, _, rfl⟩ := List.mem_map.mp (List.mem_toArray.mp hx)
  have hc : c.toNat < 1114112 := by
    rcases c.valid with h | ⟨_, h⟩
    · exact Nat.lt_trans h (by decide)
    · exact h
  exact decide_eq_true hc
theorem app_ok {a b : Str} (ha : PyData.strOk a = true) (hb : PyData.strOk b = true) : PyData.strOk (a ++ b) = true := by
  show (a.cps ++ b.cps).all (fun c => decide (c < 0x110000)) = true
  rw [Array.all_append, Bool.and_eq_true]
  exact ⟨ha, hb⟩
theorem join_ok {sep : Str} (hs : PyData.strOk sep = true) : ∀ ts : List Str, (∀ t ∈ ts, PyData.strOk t = true) → PyData.strOk (Str.join sep ts) = true
  | [], _ => by simp [Str.join, Str.empty, PyData.strOk]
  | [x], h => h x List.mem_cons_self
  | x :: y :: r, h => app_ok (app_ok (h x List.mem_cons_self) hs) (join_ok hs (y :: r) fun t ht => h t (List.mem_cons_of_mem _ ht))
theorem from_ok : ∀ (ts : List Str) (k : Nat) (acc : Str), PyData.strOk acc = true → (∀ t ∈ ts, PyData.strOk t = true) → PyData.strOk (textFrom k acc ts) = true
  | [], _, _, h, _ => h
  | t :: r, k, acc, h, ht => from_ok r (k + 1) _ (app_ok (app_ok h (txt_ok _)) (ht t List.mem_cons_self)) fun u hu => ht u (List.mem_cons_of_mem _ hu)
mutual
/-- every text within has a repr of signs -/
def sOk : PyData → Bool
  | .none => true
  | .bool _ => true
  | .int _ => true
  | .str x => PyData.strOk (reprText x)
  | .list xs => sOkAll xs
  | .tuple xs => sOkAll xs
  | .dict kvs => sOkKv kvs
def sOkAll : List PyData → Bool
  | [] => true
  | x :: r => sOk x && sOkAll r
def sOkKv : List (PyData × PyData) → Bool
  | [] => true
  | (k, v) :: r => sOk k && sOk v && sOkKv r
end
mutual
theorem shown_ok : ∀ d : PyData, sOk d = true → PyData.strOk d.shown = true
  | .none, _ => by
    rw [PyData.shown]
    exact txt_ok _
  | .bool b, _ => by
    rw [PyData.shown]
    cases b <;> exact txt_ok _
  | .int i, _ => by
    rw [PyData.shown_int]
    exact txt_ok _
  | .str x, h => by
    rw [PyData.shown]
    rw [sOk] at h
    exact h
  | .list xs, h => by
    rw [sOk] at h
    rw [PyData.shown]
    exact app_ok (from_ok _ _ _ (txt_ok _) (shownAll_ok xs h)) (txt_ok _)
  | .tuple xs, h => by
    rw [sOk] at h
    rw [PyData.shown]
    exact app_ok (app_ok (txt_ok _) (join_ok (txt_ok _) _ (shownAll_ok xs h))) (txt_ok _)
  | .dict kvs, h => by
    rw [sOk] at h
    rw [PyData.shown]
    exact app_ok (app_ok (txt_ok _) (join_ok (txt_ok _) _ (shownKv_ok kvs h))) (txt_ok _)
theorem shownAll_ok : ∀ ds : List PyData, sOkAll ds = true → ∀ t ∈ PyData.shownAll ds, PyData.strOk t = true
  | [], _ => by
    rw [PyData.shownAll]
    exact fun t ht => nomatch ht
  | d :: r, h => by
    rw [sOkAll, Bool.and_eq_true] at h
    rw [PyData.shownAll]
    intro t ht
    rcases List.mem_cons.mp ht with rfl | ht
    · exact shown_ok d h.1
    · exact shownAll_ok r h.2 t ht
theorem shownKv_ok : ∀ kvs : List (PyData × PyData), sOkKv kvs = true → ∀ t ∈ PyData.shownKv kvs, PyData.strOk t = true
  | [], _ => by
    rw [PyData.shownKv]
    exact fun t ht => nomatch ht
  | (k, v) :: r, h => by
    rw [sOkKv, Bool.and_eq_true, Bool.and_eq_true] at h
    rw [PyData.shownKv]
    intro t ht
    rcases List.mem_cons.mp ht with rfl | ht
    · exact app_ok (app_ok (shown_ok k h.1.1) (txt_ok _)) (shown_ok v h.1.2)
    · exact shownKv_ok r h.2 t ht
end
theorem ext_sqL {K : PySem.W.Frag} {H H' : Hp} {a : Addr} {xs : List V} (e : LamX.ExtN H H') (h : SqL K H a xs) : SqL K H' a xs := by
  rcases h with (h | ⟨o, h⟩) | h
  · exact .inl (.inl (e _ _ h (fun _ z => by cases z)))
  · exact .inl (.inr ⟨o, e _ _ h (fun _ z => by cases z)⟩)
  · exact .inr h
mutual
theorem Dq.ext {K : PySem.W.Frag} {H H' : Hp} (e : LamX.ExtN H H') : ∀ {v : V} {d : PyData}, Dq K H v d → Dq K H' v d
  | _, _, .non => .non
  | _, _, .bl b => .bl b
  | _, _, .int i => .int i
  | _, _, .str x => .str x
  | _, _, .lst h t => .lst (ext_sqL e h) (DqAll.ext e t)
  | _, _, .tup h t => .tup (ext_sqt e h) (DqAll.ext e t)
  | _, _, .dct h t => .dct (e _ _ h (fun _ z => by cases z)) (DqKv.ext e t)
theorem DqAll.ext {K : PySem.W.Frag} {H H' : Hp} (e : LamX.ExtN H H') : ∀ {vs : List V} {ds : List PyData}, DqAll K H vs ds → DqAll K H' vs ds
  | _, _, .nil => .nil
  | _, _, .cons h t => .cons (Dq.ext e h) (DqAll.ext e t)
theorem DqKv.ext {K : PySem.W.Frag} {H H' : Hp} (e : LamX.ExtN H H') : ∀ {vs : List (Key × V)} {ds : List (PyData × PyData)}, DqKv K H vs ds → DqKv K H' vs ds
  | _, _, .nil => .nil
  | _, _, .cons h t => .cons (Dq.ext e h) (DqKv.ext e t)
end
theorem BT.tups {p : Addr} {c : Nat} {K : PySem.W.Frag} {H H' : Hp} (e : BT p H H') (hp : Pot H p c) : Tups K H H' := fun a xs h => by
  obtain ⟨o, ho, own, mix, cnt, rfl, _⟩ := hp
  rcases h with (h | ⟨o', h⟩) | h
  · exact .inl (.inl (e _ _ (fun z => by rw [z, ho] at h; cases h) h (fun _ z => by cases z)))
  · exact .inl (.inr ⟨o', e _ _ (fun z => by rw [z, ho] at h; cases h) h (fun _ z => by cases z)⟩)
  · exact .inr h
theorem ext_wo {S : Addr → Prop} {p : Addr} {H H' : Hp} (hp : S p) (e : BT p H H') : LamX.ExtN (wo S H) (wo S H') := fun b o h t => by
  by_cases z : S b
  · rw [wo_in z] at h
    cases h
  · rw [wo_ne z] at h ⊢
    exact e b o (fun q => z (by rw [q]; exact hp)) h t
end Loc

set_option Elab.async false
set_option linter.all false
set_option maxRecDepth 100000
set_option maxHeartbeats 4000000
/-! ### an own error class called, with keywords, its __init__ any callee -/
namespace Loc
namespace XK
open PySem PySem.W PySem.Calls PyProof.Rows PySem.HandSPX
section
variable {M : Model} {prog : Program} {w : World} {A : Around} {E : Value → Shared → Prop} {R : Result → Shared → Prop} {h : Heap} {g : Array GenState} {d : Drawn} {t : Nat} {os : OsState}
variable {nm q : Str} {C N : Addr} {bs bm bmB : List Value} {hdct : Bool} {sn : List Str} {sub : List Value} {ab : Bool} {col : Option Bool} {dd : Option Addr} {k0 k1 k2 k3 k5 : Option Value} {B newId initId : String}
/-- the check ahead of B.__new__ -/
theorem kw_check_new (F : ExcBaseFacts B newId initId bmB) (hT : ∀ Y : String, bm.contains (.type Y) = bmB.contains (.type Y)) {us : List Value} {kw : List (Str × Value)} {Q : Unit → Shared → Prop}
    (cls : h.get? C = some (excClassObj nm q C N bs bm hdct sn sub ab col dd k0 k1 k2 k3 k5 newId)) (hq : Q () ⟨h, g, d, t, os⟩) : wpAny M A (checkBuiltinCall newId ⟨.ref C :: us, kw⟩) Q E ⟨h, g, d, t, os⟩ := by
  have inB : (Value.ref C :: bm).contains (.type B) = true := by rw [List.contains_cons, hT, F.hasB, Bool.or_true]
  have nostar := F.noStar
  simp only [checkBuiltinCall, F.newKind, F.newSplit, F.newRow]
  repeat (first | refine wpAny_loadPart_at cls ?_ | (refine wpAny_isSubtype_exc cls ?_; rw [inB]) | refine wpAny_staticBase_exc cls ?_ | refine wpAny_madeBy_exc cls ?_ | simp only [bne_self_eq_false, Bool.false_eq_true, if_false] | wp_step)
  exact hq
/-- B.__new__ takes keywords and leaves them -/
theorem kw_new (F : ExcBaseFacts B newId initId bmB) (hT : ∀ Y : String, bm.contains (.type Y) = bmB.contains (.type Y)) {us : List Value} {kw : List (Str × Value)}
    (cls : h.get? C = some (excClassObj nm q C N bs bm hdct sn sub ab col dd k0 k1 k2 k3 k5 newId))
    (hq : R (.ok (.ret (.ref (h.objs.size + 1)))) ⟨(h.push (kdv_tup us)).push (excO C h.objs.size), g, d, t, os⟩) (hlen : us.length ≤ sizeLine) :
    codeAny (model prog w) A (.builtin newId ⟨.ref C :: us, kw⟩) R ⟨h, g, d, t, os⟩ := by
  have hends := F.ends
  have inB : (Value.ref C :: bm).contains (.type B) = true := by rw [List.contains_cons, hT, F.hasB, Bool.or_true]
  have inA : (Value.ref C :: bm).contains (.type "AttributeError") = false := by rw [List.contains_cons, hT, F.noAttr]; rfl
  have inN : (Value.ref C :: bm).contains (.type "NameError") = false := by rw [List.contains_cons, hT, F.noName]; rfl
  refine codeAny_builtinAt F.entry ?_
  unfold Builtin.«BaseException.__new__»
  refine PySem.wpAt_bind (show PySem.wpAt _ _ _ (stack >>= _) _ _ _ from PySem.wpAt_bind (PySem.wpAt_stack fun top below => PySem.wpAt_of_wpAny ?_))
  wp_walk
  refine PySem.wpAt_of_wpAny ?_
  rw [F.owner]
  repeat (first | with_reducible refine wpAny_madeHere_exc F.canon cls ?_ | with_reducible refine wpAny_loadPart_at cls ?_ | (with_reducible refine wpAny_isSubtype_exc cls ?_; first | rw [inB] | rw [inA] | rw [inN]) | wp_step)
  show R _ _
  rw [Heap.size_push]
  exact hq
/-- type.__call__ on such a class -/
theorem kw_type_call (F : ExcBaseFacts B newId initId bmB) (hT : ∀ Y : String, bm.contains (.type Y) = bmB.contains (.type Y)) {us : List Value} {kw : List (Str × Value)} {fi : Value} {Q : Fin → Shared → Prop}
    (cls : h.get? C = some (excClassObj nm q C N bs bm hdct sn sub ab col dd k0 k1 k2 k3 k5 newId))
    (hi : Looks (model prog w) h (typeLookup (.ref C) "__init__") (some fi)) (hb : ∀ me, Looks (model prog w) h (bindSpecial fi me) (fi, [me])) (hlen : us.length ≤ sizeLine)
    (hq : codeAny (model prog w) A (.call fi ⟨.ref (h.objs.size + 1) :: us, kw⟩)
      (fun r s' => match r with | .ok (.ret v) => v = .none ∧ Q (.done (.ret (.ref (h.objs.size + 1)))) s' | .ok _ => False | .error e => E e s') ⟨(h.push (kdv_tup us)).push (excO C h.objs.size), g, d, t, os⟩) :
    wpAny (model prog w) A (Builtin.«type.__call__» ⟨.ref C :: us, kw⟩) Q E ⟨h, g, d, t, os⟩ := by
  repeat (first | with_reducible refine wpAny_loadPart_at cls ?_ | with_reducible refine wpAny_madeBy_exc cls ?_ | wp_step)
  refine codeAny_call_builtin_code (Code.quiet_builtin _ F.quiet) (kw_check_new F hT cls (kw_new F hT cls ?_ hlen))
  show wpAny _ _ _ _ _ _
  have kept : ∀ b o, h.get? b = some o → ((h.push (kdv_tup us)).push (excO C h.objs.size)).get? b = some o := fun b o e => Heap.get?_push_of_some _ (Heap.get?_push_of_some _ e)
  have cls1 := kept _ _ cls
  have there : ((h.push (kdv_tup us)).push (excO C h.objs.size)).get? (h.objs.size + 1) = some (excO C h.objs.size) := by heap_get
  have own : (Value.ref C :: bm).contains (.ref C) = true := by simp
  have li := hi.keeps kept
  have lb := (hb (.ref (h.objs.size + 1))).keeps kept
  unfold isInstance
  repeat (first | with_reducible refine wpAny_loadPart_at there ?_ | (with_reducible refine wpAny_isSubtype_exc cls1 ?_; rw [own]) | wp_step)
  show wpAny _ _ (typeLookup (.ref C) _) _ _ _
  refine li.at (wpAny_holding (wpAny_bind (lb.at (wpAny_bind (wpAny_call (codeAny_mono hq fun r s' z => ?_))))))
  rcases r with e | (v | _ | _ | _) <;> first | exact z | exact z.elim | skip
  obtain ⟨rfl, z⟩ := z
  first
    | exact wpAny_pure (wpAny_pure z)
    | (wp_walk; exact z)
theorem kw_check_call {us : List Value} {kw : List (Str × Value)} {Q : Unit → Shared → Prop} (cls : h.get? C = some (excClassObj nm q C N bs bm hdct sn sub ab col dd k0 k1 k2 k3 k5 newId))
    (hq : Q () ⟨h, g, d, t, os⟩) : wpAny M A (checkBuiltinCall "type.__call__" ⟨.ref C :: us, kw⟩) Q E ⟨h, g, d, t, os⟩ := by
  have isTy : (⟨h, g, d, t, os⟩ : Shared).TypeIs (.ref C) "type" := ⟨_, cls, rfl⟩
  have stp := tc_sub
  simp only [checkBuiltinCall, tc_kind, tc_split]
  repeat (any_goals (first | assumption | with_reducible refine wpAny_loadPart_at cls ?_ | with_reducible refine wpAny_onRaise ?_ | with_reducible refine wpAny_map ?_ | wp_step))
theorem kw_call (F : ExcBaseFacts B newId initId bmB) (hT : ∀ Y : String, bm.contains (.type Y) = bmB.contains (.type Y)) {us : List Value} {kw : List (Str × Value)} {fi : Value}
    (cls : h.get? C = some (excClassObj nm q C N bs bm hdct sn sub ab col dd k0 k1 k2 k3 k5 newId))
    (hi : Looks (model prog w) h (typeLookup (.ref C) "__init__") (some fi)) (hb : ∀ me, Looks (model prog w) h (bindSpecial fi me) (fi, [me])) (hlen : us.length ≤ sizeLine)
    (hq : codeAny (model prog w) (A.under (.builtin "type.__call__" ⟨.ref C :: us, kw⟩)) (.call fi ⟨.ref (h.objs.size + 1) :: us, kw⟩) (InitBack (h.objs.size + 1) R) ⟨(h.push (kdv_tup us)).push (excO C h.objs.size), g, d, t, os⟩) :
    codeAny (model prog w) A (.call (.ref C) ⟨us, kw⟩) R ⟨h, g, d, t, os⟩ := by
  have look := tc_lookup
  have bind := tc_bind (.ref C)
  have isTy : (⟨h, g, d, t, os⟩ : Shared).TypeIs (.ref C) "type" := ⟨_, cls, rfl⟩
  refine codeAny_of_tree (show wpAny _ _ (callAny (.ref C) _) _ _ _ from ?_)
  repeat (any_goals (first | assumption | with_reducible refine wpAny_loadPart_at cls ?_ | wp_step))
  refine ⟨rfl, codeAny_call_builtin_at (Code.quiet_builtin _ (by decide +kernel)) entry_typeCall (kw_check_call cls (kw_type_call F hT cls hi hb hlen ?_))⟩
  refine codeAny_mono hq fun r s' z => ?_
  rcases r with e | (v | _ | _ | _) <;> exact z
end
end XK
end Loc

set_option Elab.async false
set_option linter.all false
set_option maxRecDepth 100000
set_option maxHeartbeats 4000000
/-! ### own errors made as values: by positions, by names, without values; what is asked of them -/
namespace Loc
open PySem PySem.Spec PyProof.Rows L2
section
variable {X : Cx} {k n : Nat} {fI C : Addr} {fd : FuncData} {ps ks : List Str} {sp : Sp} {x : Str} {p pos : Pos} {e : Expr} {es : List Expr} {kws : List Keyword} {t tk : TA} {g : List Value → List Value → List Value} {gV : List V → List V → List V}
/-- C(..), C's own __init__ keeping sp -/
def tErr (C : Addr) (n m : Nat) (sp : Sp) (gV : List V → List V → List V) (t tk : TA) : TE := fun σ H Q => t σ H fun vs H1 => tk σ H1 fun zs H2 => vs.length = n ∧ zs.length = m ∧ n ≤ 1000 ∧ ∀ a, H2 a = none →
  sp (gV (.ref a :: vs) zs) (upd H2 a (exo a C none)) (fun v H3 => v = .non ∧ Q (.ref a) H3) (fun _ _ _ => False)
theorem run_err {pins : List (Addr × Obj)} {σ : L2.St} {H : Hp} {s : Shared} {Q : VK} {us ws : List Value} {vs zs : List V} (T : OexC X.K C) (iC : PySem.W.findIn X.K (.ref C) "__init__" = some (some (.ref fI))) (tI : PySem.W.typeIn X.K (.ref fI) = some (.type "function"))
    (F1 : FnOk X.prog X.w X.K X.mg X.base CX0 k fI fd ps sp) (hr : Room (k + 1) X.A) (hb : KBn X.K fd ps (n + 1) ks g gV) (I : Inv X pins σ H s) (r : Vals vs us) (rz : Vals zs ws) (l1 : vs.length = n) (l2 : zs.length = ks.length) (ln : n ≤ 1000)
    (h : ∀ a, H a = none → sp (gV (.ref a :: vs) zs) (upd H a (exo a C none)) (fun v H2 => v = .non ∧ Q (.ref a) H2) (fun _ _ _ => False)) :
    wpAny (model X.prog X.w) X.A (call (.ref C) us (ks.zip ws)) (EP X pins σ Q) X.xe s := by
  obtain ⟨nm, q, N, bs, bm, sn, sub, ab, col, dd, k0, k1, k2, k3, k5, hC, hbm⟩ := T.cls
  obtain ⟨hp, gs, dr, tok, os⟩ := s
  have new2 : hp.objs.size ≤ hp.objs.size + 1 := Nat.le_succ _
  have hq := h (hp.objs.size + 1) (I.hok.fresh new2)
  have kept : ∀ b o, hp.get? b = some o → ((hp.push (PySem.W.kdv_tup us)).push (PySem.HandSPX.excO C hp.objs.size)).get? b = some o := fun b o z => Heap.get?_push_of_some _ (Heap.get?_push_of_some _ z)
  have there : ((hp.push (PySem.W.kdv_tup us)).push (PySem.HandSPX.excO C hp.objs.size)).get? (hp.objs.size + 1) = some (PySem.HandSPX.excO C hp.objs.size) := by heap_get
  have J : Inv X pins σ (upd H (hp.objs.size + 1) (exo (hp.objs.size + 1) C none)) ⟨(hp.push (PySem.W.kdv_tup us)).push (PySem.HandSPX.excO C hp.objs.size), gs, dr, tok, os⟩ :=
    I.laid (t' := tok) (a := hp.objs.size + 1) (o := exo (hp.objs.size + 1) C none) (h' := (hp.push (PySem.W.kdv_tup us)).push (PySem.HandSPX.excO C hp.objs.size)) kept new2 (exo_ok there)
  have r1 : Vals (V.ref (hp.objs.size + 1) :: vs) (Value.ref (hp.objs.size + 1) :: us) := .cons rfl r
  have r2 := hb.rel r1 rz
  have n1 : (Value.ref (hp.objs.size + 1) :: us).length = n + 1 := by rw [List.length_cons, ← r.length, l1]
  have lu : us.length ≤ sizeLine := by
    rw [← r.length, l1, sizeLine_eq]
    omega
  refine wpAny_call (XK.kw_call F.excBase_ValueError (fun Y => PySem.HandSPX.refsVE_contains Y bm hbm) (I.kIn _ _ hC) (PySem.W.looks_findIn I.kIn iC) (fun me => PySem.W.bind_fn I.kIn me tI) lu
    (codeAny_mono (F1.run _ X.stack _ _ ⟨Value.ref (hp.objs.size + 1) :: us, ks.zip ws⟩ (g (Value.ref (hp.objs.size + 1) :: us) ws) _ _ (fun _ _ _ => False) (hr.make C us (ks.zip ws)) (J.env0.make C us (ks.zip ws)) (hb.to _ _ ws J.kIn n1 (rz.length.symm.trans l2)) r2 hq) fun res s' hz => ?_))
  cases res with
  | error er => exact False.elim (show False from hz)
  | ok fl =>
    cases fl with
    | ret u =>
      obtain ⟨v, H3, J3, rv, ev, q3⟩ := J.after hz
      subst ev
      exact ⟨rv, ⟨V.ref (hp.objs.size + 1), H3, J3, rfl, q3⟩⟩
    | _ => exact False.elim hz
/-- C(e, ..) -/
theorem pe_err (T : OexC X.K C) (iC : PySem.W.findIn X.K (.ref C) "__init__" = some (some (.ref fI))) (tI : PySem.W.typeIn X.K (.ref fI) = some (.type "function")) (F1 : FnOk X.prog X.w X.K X.mg X.base CX0 k fI fd ps sp) (hr : Room (k + 1) X.A) (hb : KBn X.K fd ps (n + 1) [] g gV)
    (hg : Gl X x) (hm : X.mg x = some (.ref C)) (ha : PA X (e :: es) t) (nq : (x == ("__debug__" : Str)) = false := by decide) (he : starEach (e :: es) X.env = (false, eval e X.env) :: starEach es X.env := by rfl) (hpl : (backTo pos (starEach es X.env)).any (·.1) = false := by rfl) :
    PE X (.Call (.Name x p) (e :: es) [] pos) (tErr C n 0 sp gV t tNil) := by
  refine ⟨fun pins s σ H Q I h => wpAny_Call_Name_kw (ld_glob I hg hm ?_ nq)⟩
  refine PySem.W.callWith_K (h₀ := X.base) I.ok.mod.kin T.kC (thn (ha.run pos pins s σ H _ I h) fun us s1 ⟨vs, H1, I1, r1, l1, l2, ln, q1⟩ => ⟨I1.kIn, ?_⟩) he hpl
  exact run_err (ws := []) (zs := []) T iC tI F1 hr hb I1 r1 .nil l1 l2 ln q1
/-- C(k = e, ..) -/
theorem pe_errK (T : OexC X.K C) (iC : PySem.W.findIn X.K (.ref C) "__init__" = some (some (.ref fI))) (tI : PySem.W.typeIn X.K (.ref fI) = some (.type "function")) (F1 : FnOk X.prog X.w X.K X.mg X.base CX0 k fI fd ps sp) (hr : Room (k + 1) X.A) (hb : KBn X.K fd ps 1 ks g gV)
    (hg : Gl X x) (hm : X.mg x = some (.ref C)) (hkw : PK X kws tk) (hall : (backToKw pos (keywordEach kws X.env)).all (·.1.isSome) = true := by rfl) (hks : (backToKw pos (keywordEach kws X.env)).filterMap (·.1) = ks := by rfl)
    (nq : (x == ("__debug__" : Str)) = false := by decide) (hpl : ((backTo pos (starEach [] X.env)).any (·.1) || (backToKw pos (keywordEach kws X.env)).any (·.1.isNone)) = false := by rfl) :
    PE X (.Call (.Name x p) [] kws pos) (tErr C 0 ks.length sp gV tNil tk) := by
  refine ⟨fun pins s σ H Q I h => wpAny_Call_Name_kw (ld_glob I hg hm ?_ nq)⟩
  refine PySem.W.callWith_KW0 (h₀ := X.base) I.ok.mod.kin T.kC hall (thn (hkw.run pos pins s σ H _ I h) fun ws s2 ⟨zs, H2, I2, rz, l1, l2, ln, q2⟩ => ⟨I2.kIn, ?_⟩) hpl
  rw [hks]
  exact run_err (us := []) (vs := []) T iC tI F1 hr hb I2 .nil rz l1 l2 ln q2
/-- C(), ValueError's __init__ -/
def tErr0 (C : Addr) : TE := fun _ H Q => ∀ a, H a = none → Q (.ref a) (upd H a (exo a C none))
theorem pe_err0 (T : OexC X.K C) (iC : PySem.W.findIn X.K (.ref C) "__init__" = some (some (.builtin "ValueError.__init__"))) (hg : Gl X x) (hm : X.mg x = some (.ref C)) (nq : (x == ("__debug__" : Str)) = false := by decide) : PE X (.Call (.Name x p) [] [] pos) (tErr0 C) := by
  refine ⟨fun pins s σ H Q I h => wpAny_Call_Name_kw (ld_glob I hg hm ?_ nq)⟩
  refine PySem.W.callWith_K0 I.kIn T.kC ?_
  obtain ⟨nm, q, N, bs, bm, sn, sub, ab, col, dd, k0, k1, k2, k3, k5, hC, hbm⟩ := T.cls
  obtain ⟨hp, gs, dr, tok, os⟩ := s
  have new2 : hp.objs.size ≤ hp.objs.size + 1 := Nat.le_succ _
  have hq := h (hp.objs.size + 1) (I.hok.fresh new2)
  have kept : ∀ b o, hp.get? b = some o → ((hp.push (PySem.W.kdv_tup [])).push (PySem.HandSPX.excO C hp.objs.size)).get? b = some o := fun b o z => Heap.get?_push_of_some _ (Heap.get?_push_of_some _ z)
  have there : ((hp.push (PySem.W.kdv_tup [])).push (PySem.HandSPX.excO C hp.objs.size)).get? (hp.objs.size + 1) = some (PySem.HandSPX.excO C hp.objs.size) := by heap_get
  have J : Inv X pins σ (upd H (hp.objs.size + 1) (exo (hp.objs.size + 1) C none)) ⟨(hp.push (PySem.W.kdv_tup [])).push (PySem.HandSPX.excO C hp.objs.size), gs, dr, tok, os⟩ :=
    I.laid (t' := tok) (a := hp.objs.size + 1) (o := exo (hp.objs.size + 1) C none) (h' := (hp.push (PySem.W.kdv_tup [])).push (PySem.HandSPX.excO C hp.objs.size)) kept new2 (exo_ok there)
  refine wpAny_call (XK.kw_call (kw := []) F.excBase_ValueError (fun Y => PySem.HandSPX.refsVE_contains Y bm hbm) (I.kIn _ _ hC) (PySem.W.looks_findIn I.kIn iC) (fun me => by rw [F.excBase_ValueError.init.bind me]; exact .now) (Nat.zero_le _)
    (PySem.HandSPX.init_base F.excBase_ValueError (fun Y => PySem.HandSPX.refsVE_contains Y bm hbm) (kept _ _ (I.kIn _ _ hC)) there (Nat.zero_le _) fun h' t1 k2' hx => ⟨rfl, ?_⟩))
  have J2 := J.write (t' := tok) (x := hp.objs.size + 1) (e := hp.objs.size + 1) (o := exo (hp.objs.size + 1) C none) (by rw [upd_same]; exact True.intro) (.inl rfl) k2' ⟨_, hx⟩ (exo_ok hx)
  have same : upd (upd H (hp.objs.size + 1) (exo (hp.objs.size + 1) C none)) (hp.objs.size + 1) (exo (hp.objs.size + 1) C none) = upd H (hp.objs.size + 1) (exo (hp.objs.size + 1) C none) := by
    funext b
    by_cases hb : b = hp.objs.size + 1
    · rw [hb, upd_same, upd_same]
    · rw [upd_ne hb]
  rw [same] at J2
  exact ⟨V.ref (hp.objs.size + 1), _, J2, rfl, hq⟩
end
/-! what is asked of such an error -/
/-- such an error stands at a -/
def Ex (H : Hp) (a C : Addr) (fs : List (Str × V)) : Prop := ∃ d, H a = some (exo a C (some d)) ∧ H d = some (exd d fs)
def Ex0 (H : Hp) (a C : Addr) : Prop := H a = some (exo a C none)
theorem Ex.same {H H' : Hp} {a C : Addr} {fs : List (Str × V)} (h : Ex H a C fs) (s : Same H H') : Ex H' a C fs := let ⟨d, e1, e2⟩ := h; ⟨d, s _ _ e1, s _ _ e2⟩
def ExA (H : Hp) (a C : Addr) : Prop := Ex0 H a C ∨ ∃ fs, Ex H a C fs
theorem ExA.same {H H' : Hp} {a C : Addr} (h : ExA H a C) (s : Same H H') : ExA H' a C := h.imp (fun h => s _ _ h) fun ⟨fs, h⟩ => ⟨fs, h.same s⟩
section
variable {X : Cx} {pins : List (Addr × Obj)} {σ : L2.St} {H : Hp} {s : Shared} {a C : Addr} {fs : List (Str × V)}
theorem Ex.inst (I : Inv X pins σ H s) (h : Ex H a C fs) : ∃ oe od, PySem.W.InstAt s.heap a oe C (some od) ∧ ∀ n v, fs.lookup n = some v → ∃ u, PySem.W.lookIn n od = some (some u) ∧ RelV v u := by
  obtain ⟨d, e1, e2⟩ := h
  obtain ⟨t1, g1⟩ := exo_at I.hok e1
  obtain ⟨mA, ns, rel⟩ := exd_at I.hok e2
  obtain ⟨od, ho, hl⟩ := lookIn_ns ns
  refine ⟨_, od, ⟨g1, rfl, rfl, ho⟩, fun n v e => ?_⟩
  obtain ⟨u, hu, ru⟩ := RelO.some_of (v := v) (o := mA n) (by rw [← e]; exact rel n)
  exact ⟨u, by rw [hl, hu], ru⟩
theorem ExA.inst (I : Inv X pins σ H s) (h : ExA H a C) : ∃ oe od, PySem.W.InstAt s.heap a oe C od := by
  rcases h with h | ⟨fs, h⟩
  · obtain ⟨t1, g1⟩ := exo_at I.hok h
    exact ⟨_, none, g1, rfl, rfl, True.intro⟩
  · obtain ⟨oe, od, J, _⟩ := h.inst I
    exact ⟨oe, some od, J⟩
/-- isinstance(e, c) -/
def rIsX (K : PySem.W.Frag) : List V → Hp → VK → Prop := fun xs H Q => ∃ (a C : Addr) (c : V) (cv : Value) (b : Bool), xs = [.ref a, c] ∧ ExA H a C ∧ ErrC K C ∧ ClsV c cv ∧ PySem.W.kitOne K (.ref C) cv = some b ∧ Q (.bl b) H
theorem call_isX : CallR X (.builtin "isinstance") (rIsX X.K) := by
  intro pins s σ H xs us Q I r h
  obtain ⟨a, C, c, cv, b, rfl, he, k, hc, e, q⟩ := h
  obtain ⟨u1, u2, rfl, r1, r2⟩ := vals2 r
  have e2 := hc.eq r2
  subst e2
  cases (show u1 = Value.ref a from r1)
  obtain ⟨oe, od, J⟩ := he.inst I
  exact PySem.W.kia_one (PySem.W.kitx_exc k.cl k.ga k.gg k.sub k.at_ k.get k.tak k.mro) I.kIn J e (fun z => nomatch z) fun tk => ⟨.bl b, H, I.tok tk, rfl, q⟩
/-- isinstance(e, (c1, c2, ..)) -/
def rIsXT (K : PySem.W.Frag) : List V → Hp → VK → Prop := fun xs H Q => ∃ (a C tp : Addr) (cs : List V) (cvs : List Value) (b : Bool), xs = [.ref a, .ref tp] ∧ ExA H a C ∧ ErrC K C ∧ H tp = some (.tup cs) ∧ Paired ClsV cs cvs ∧ PySem.W.kitAny K (.ref C) cvs = some b ∧ Q (.bl b) H
theorem call_isXT : CallR X (.builtin "isinstance") (rIsXT X.K) := by
  intro pins s σ H xs us Q I r h
  obtain ⟨a, C, tp, cs, cvs, b, rfl, he, k, hT, hc, e, q⟩ := h
  obtain ⟨u1, u2, rfl, r1, r2⟩ := vals2 r
  cases (show u1 = Value.ref a from r1)
  cases (show u2 = Value.ref tp from r2)
  obtain ⟨oe, od, J⟩ := he.inst I
  have kT : ObjOk X.prog X.w H s.heap tp (.tup cs) := I.hok tp _ hT
  obtain ⟨_, its, rv, o, h1, h2, n, h3⟩ := kT
  have e3 := ClsV.all hc rv
  subst e3
  obtain ⟨oc, od', dt, sl⟩ := o
  simp only at h2 h3
  subst h2 h3
  exact PySem.W.kia_tup (PySem.W.kitx_exc k.cl k.ga k.gg k.sub k.at_ k.get k.tak k.mro) I.kIn J h1 e (fun z => nomatch z) fun tk => ⟨.bl b, H, I.tok tk, rfl, q⟩
/-- e.f -/
def tExF (K : PySem.W.Frag) (f : Str) (te : TE) : TE := fun σ H Q => te σ H fun x H1 => ∃ (a C : Addr) (fs : List (Str × V)) (v : V), x = .ref a ∧ Ex H1 a C fs ∧ ErrC K C ∧ PySem.W.findIn K (.ref C) f = some none ∧ fs.lookup f = some v ∧ Q v H1
theorem pe_exf {e : Expr} {te : TE} {pos : Pos} {n : Str} (he : PE X e te) (hb : attributeBase e n X.env (eval e X.env) = eval e X.env := by rfl) : PE X (.Attribute e n pos) (tExF X.K n te) := by
  constructor
  intro pins s σ H Q I h
  refine attr_of hb (thn (he.run pins s σ H _ I h) fun u s1 hu => ?_)
  obtain ⟨x, H1, I1, rx, a, C, fs, v, rfl, hE, k, hno, hl, q⟩ := hu
  cases (show u = Value.ref a from rx)
  obtain ⟨oe, od, J, look⟩ := hE.inst I1
  obtain ⟨u, hu, ru⟩ := look n v hl
  exact HandSPX.exc_get I1.kIn J k.ga k.gg k.sub (PySem.W.findObj_own k.hd hno rfl hu) (handed_of ru) ⟨v, H1, I1.tok _, ru, q⟩
end
/-! bindings -/
section
variable {K : PySem.W.Frag} {x qual : Str} {st : Stmt} {f : Addr} {fd : FuncData} {ps : List Str}
def gA {α : Type} (us ws : List α) : List α := us ++ ws
def gB {α : Type} (us ws : List α) : List α := us ++ ws.reverse
theorem vals_rev : ∀ {vs : List V} {us : List Value}, Vals vs us → Vals vs.reverse us.reverse
  | _, _, .nil => .nil
  | _, _, .cons h t => by
    rw [List.reverse_cons, List.reverse_cons]
    exact (vals_rev t).append (.cons h .nil)
theorem fun_kbnA (F : Fun K x qual st f fd) (n : Nat) (ks : List Str) (h : ∀ (kV doc pm : Value) (an : Option Addr) (cdv ct : Value) (us ws : List Value), us.length = n → ws.length = ks.length →
    bindArgs (PySem.W.fnOf x qual (defArgs st) (defBody st) (defScope st) .none kV doc pm an cdv ct) ⟨us, ks.zip ws⟩ = pure (ps.zip (gA us ws))) : KBn K fd ps n ks gA gA := by
  obtain ⟨oc, od, kV, doc, pm, an, cdv, ct, osl, rfl, lk, hcd⟩ := F.ex
  exact ⟨fun s us ws _ l1 l2 => .of_eq (h kV doc pm an cdv ct us ws l1 l2), fun r rz => r.append rz⟩
theorem fun_kbnB (F : Fun K x qual st f fd) (n : Nat) (ks : List Str) (h : ∀ (kV doc pm : Value) (an : Option Addr) (cdv ct : Value) (us ws : List Value), us.length = n → ws.length = ks.length →
    bindArgs (PySem.W.fnOf x qual (defArgs st) (defBody st) (defScope st) .none kV doc pm an cdv ct) ⟨us, ks.zip ws⟩ = pure (ps.zip (gB us ws))) : KBn K fd ps n ks gB gB := by
  obtain ⟨oc, od, kV, doc, pm, an, cdv, ct, osl, rfl, lk, hcd⟩ := F.ex
  exact ⟨fun s us ws _ l1 l2 => .of_eq (h kV doc pm an cdv ct us ws l1 l2), fun r rz => r.append (vals_rev rz)⟩
end
end Loc

set_option Elab.async false
set_option linter.all false
set_option maxRecDepth 100000
namespace C00
open PySem PySem.Spec PyProof.Rows L2 Loc RZ
def topS (i : Nat) : Stmt := PySem.Challenge.pw_localblocks_k00_errors_and_their_values.main.body.getD i (.Pass ⟨0, 0, 0, 0⟩)
abbrev sPot : Stmt := topS 14
abbrev sTake : Stmt := topS 15
abbrev sOf : Stmt := topS 16
abbrev sOdd : Stmt := topS 17
abbrev s__law_kinds : Stmt := topS 18
abbrev s__law_value : Stmt := topS 19
abbrev sLaw : Stmt := topS 20
end C00

set_option Elab.async false
set_option linter.all false
set_option maxRecDepth 100000
namespace C00
open PySem PySem.Spec PyProof.Rows L2 Loc RZ
/-! ### the law's pot -/
section
variable {P : Program} {w : World} {K : PySem.W.Frag} {mg : Str → Option Value} {base : Heap}
theorem scPot : FnScope ["script", "k", "cell", "own"] ["script", "k"] (defScope sPot) := ⟨rfl, rfl, rfl, by decide +kernel, rfl, by decide +kernel, by decide +kernel⟩
theorem scTake : FnScope ["pot", "bound", "digit", "prime", "mixed"] ["pot", "bound"] (defScope sTake) := ⟨rfl, rfl, rfl, by decide +kernel, rfl, by decide +kernel, by decide +kernel⟩
theorem ok_pot {f : Addr} {fd : FuncData} {k : Nat} (F : Fun K "_law_pot" "_law_pot" sPot f fd) (ml : mg "len" = none) (ma : mg "abs" = none) (mi : mg "int" = none) :
    FnOk P w K mg base CX0 (k + 1) f fd ["script", "k"] (spPot K) := by
  refine F.ok scPot (fun vs H Q E h => ?_) (fun cdv A outer s H vs Q E hr h => ?_)
  · obtain ⟨a, ns, k, rfl, _⟩ := h
    rfl
  · obtain ⟨a, ns, k, rfl, hS, hl, hk, q⟩ := h
    refine ⟨_, pss_cons (ps_set (i := 2) scPot.nd rfl (.inl rfl) (pe_ifExp (pt_cmpR op_lt (pv 1) (pe_callB call_len_seq (by rfl) ml PySem.boot_len (pa_cons (pv 0) pa_nil)) (nomark _))
          (pe_ix ix_list (pv 0) (pv 1) (fun _ _ => rfl)) (pe_op op_add (pe_op op_mul pe_int (pv 1)) pe_int)))
      (pss_cons (ps_set (i := 3) scPot.nd rfl (.inl rfl) (pe_op op_mul
          (pe_op op_mod (pe_callB call_abs (by rfl) ma (by decide +kernel) (pa_cons (pv 2) pa_nil)) (pe_op op_powW (pe_op op_pow pe_int pe_int) pe_int))
          (pe_callTy call_int1 (by rfl) mi (by decide +kernel) (pa_cons (pe_cmpR op_ge (pe_callB call_abs (by rfl) ma (by decide +kernel) (pa_cons (pv 2) pa_nil)) (pe_op op_pow pe_int pe_int) (nomark _)) pa_nil))))
      (pss_one (ps_ret (pe_lst (pa_cons (pv 3) (pa_cons (pe_op op_mod (pe_op op_add (pe_op op_add (pe_op op_mul (pe_op op_mod (pv 2) pe_int) pe_int) (pe_op op_mul (pe_op op_mul pe_int (pv 1)) (pv 1))) pe_int) pe_int)
          (pa_cons pe_int pa_nil))))))), ?_⟩
    refine ⟨.int k, rfl, .ref a, rfl, a, ns.map V.int, rfl, .inl hS, k, (ns.map V.int).length, rfl, rfl, _, rfl, ?_⟩
    refine joinIf (fun v H' => (∃ c : Int, v = .int c) ∧ H' = H) ?key (fun e R hR => ?yes) (fun e R hR => ?no)
    case yes =>
      have e1 : (k : Int) < ((ns.map V.int).length : Int) := of_decide_eq_true e
      rw [List.length_map] at e1
      have hk2 : k < ns.length := by omega
      refine ⟨.ref a, rfl, .int k, rfl, a, _, k, .int ns[k], rfl, rfl, hS, atI_nat (by rw [List.getElem?_map, List.getElem?_eq_getElem hk2]; rfl), hR _ _ ⟨⟨_, rfl⟩, rfl⟩⟩
    case no =>
      exact ⟨.int k, rfl, 17, k, rfl, rfl, .inl ⟨by decide, by decide⟩, _, _, rfl, rfl, hR _ _ ⟨⟨_, rfl⟩, rfl⟩⟩
    case key =>
      rintro v H' ⟨⟨c, rfl⟩, rfl⟩
      refine ⟨.int c, rfl, c, rfl, 10, 60, rfl, rfl, ⟨by decide, by decide, by decide⟩, _, _, rfl, rfl, pow60, _, _, rfl, rfl, pow300', ?_⟩
      have m1 := mod_pos (a := if c < 0 then -c else c) pow300'
      have m2 := pow300
      refine ⟨.int c, rfl, c, rfl, 10, 18, rfl, rfl, ⟨by decide, by decide, by decide⟩, _, _, rfl, rfl, .inr ⟨_, rfl, _, _, rfl, rfl, .inr ?_, ?_⟩⟩
      · exact bit_small _
      have m3 := mul_bit ⟨m1.1, Int.lt_trans m1.2 m2⟩ (decide ((10 : Int) ^ (18 : Int).toNat ≤ if c < 0 then -c else c))
      have m4 := mod_pos (a := c) (show (0 : Int) < 2305843009213693951 by decide)
      refine ⟨_, rfl, .int c, rfl, c, _, rfl, rfl, (by show (0 : Int) < 2305843009213693951; decide), _, _, rfl, rfl, .inr ⟨by decide, by decide⟩, .int k, rfl, 7907, k, rfl, rfl, .inl ⟨by decide, by decide⟩, .int k, rfl, _, _, rfl, rfl, .inr ⟨by omega, by omega⟩,
        _, _, rfl, rfl, _, 41, rfl, rfl, _, _, rfl, rfl, (by show (0 : Int) < 2305843009213693921; decide), (show 3 ≤ sizeLine from by decide), fun p hp => ?_⟩
      have m5 := mod_pos (a := c % 2305843009213693951 * 69691 + 7907 * (k : Int) * (k : Int) + 41) (show (0 : Int) < 2305843009213693921 by decide)
      exact q p _ hp ⟨_, _, 0, rfl, m3.1, m3.2, m5.1, by omega, by decide, by decide⟩
theorem ok_take {f : Addr} {fd : FuncData} {k : Nat} (F : Fun K "_law_take" "_law_take" sTake f fd) : FnOk P w K mg base CX0 (k + 1) f fd ["pot", "bound"] spTake := by
  refine F.ok scTake (fun vs H Q E h => ?_) (fun cdv A outer s H vs Q E hr h => ?_)
  · obtain ⟨p, b, c, rfl, _⟩ := h
    rfl
  · obtain ⟨p, b, c, rfl, ⟨o, ep, own, mix, cnt, rfl, h1, h2, h3, h4, h5, h6⟩, hc, b1, b2, q⟩ := h
    refine ⟨_, pss_cons (ps_if (pt_cmpR op_gt (pe_ix ix_list (pv 0) pe_int (fun _ _ => rfl)) pe_int (nomark _))
        (pss_cons (ps_set (i := 2) scTake.nd rfl (.inl rfl) (pe_op op_mod (pe_ix ix_list (pv 0) pe_int (fun _ _ => rfl)) (pv 1)))
          (pss_cons (ps_asg (pe_op op_fdivW (pe_ix ix_list (pv 0) pe_int (fun _ _ => rfl)) (pv 1)) (pg_sub (pv 0) pe_int set_list)) (pss_one (ps_ret (pv 2))))) pss_nil)
      (pss_cons (ps_asg (pe_op op_add (pe_ix ix_list (pv 0) pe_int (fun _ _ => rfl)) pe_int) (pg_sub (pv 0) pe_int set_list))
      (pss_cons (ps_set (i := 3) scTake.nd rfl (.inl rfl) (pe_ix ix_list (pe_lst (pa_cons pe_int (pa_cons pe_int (pa_cons pe_int (pa_cons pe_int (pa_cons pe_int pa_nil)))))) (pe_op op_mod (pe_ix ix_list (pv 0) pe_int (fun _ _ => rfl)) pe_int) (fun _ _ => rfl)))
      (pss_cons (ps_set (i := 4) scTake.nd rfl (.inl rfl) (pe_op op_mod (pe_op op_pow (pe_op op_add (pe_op op_add (pe_ix ix_list (pv 0) pe_int (fun _ _ => rfl))
          (pe_op op_mul (pe_op op_mul pe_int (pe_ix ix_list (pv 0) pe_int (fun _ _ => rfl))) (pe_ix ix_list (pv 0) pe_int (fun _ _ => rfl)))) pe_int) pe_int) (pv 3)))
      (pss_one (ps_ret (pe_op op_mod (pe_op op_fdiv (pe_op op_mod (pe_op op_mul (pv 4) (pe_op op_add (pe_op op_mod (pv 4) pe_int) (pe_op op_mul pe_int (pe_ix ix_list (pv 0) pe_int (fun _ _ => rfl))))) pe_int) pe_int) (pv 1))))))), ?_⟩
    have hS : SqL K H p [.int own, .int mix, .int cnt] := .inl (.inl ep)
    refine ⟨.ref p, rfl, p, _, 0, .int own, rfl, rfl, hS, rfl, own, 0, rfl, rfl, _, rfl, ite2 (fun e => ?_) (fun e => ?_)⟩
    · have hpos : 0 < own := of_decide_eq_true e
      refine ⟨.ref p, rfl, p, _, 0, .int own, rfl, rfl, hS, rfl, .int b, rfl, own, b, rfl, rfl, b1, ?_⟩
      refine ⟨.ref p, rfl, p, _, 0, .int own, rfl, rfl, hS, rfl, .int b, rfl, own, b, rfl, rfl, ⟨b1, ?_⟩, .ref p, rfl, p, _, 0, 0, rfl, rfl, ep, rfl, ?_⟩
      · exact (wide_div (i := own) b1 (natAbs_lt (Int.le_of_lt b1) b2) (by decide) (by decide)).2
      · have dv := div_small h1 b1
        exact ⟨.int (own % b), rfl, q _ _ (mod_pos b1).1 (mod_pos b1).2 .set (.put ⟨own / b, mix, cnt, rfl, dv.1, Int.lt_of_le_of_lt dv.2 h2, h3, h4, h5, by omega⟩)⟩
    · refine ⟨.ref p, rfl, p, _, 2, .int cnt, rfl, rfl, hS, rfl, cnt, 1, rfl, rfl, .ref p, rfl, p, _, 2, 2, rfl, rfl, ep, rfl, ?_⟩
      refine ⟨(show 5 ≤ sizeLine from by decide), fun l hl => ?_⟩
      have np : p ≠ l := fun z => by
        rw [z, upd_same] at hl
        cases hl
      have hS1 : SqL K (upd (upd H p (.lst [.int own, .int mix, .int (cnt + 1)])) l (.lst [.int 2147483647, .int 2147483629, .int 2147483587, .int 2147483579, .int 2147483563])) p [.int own, .int mix, .int (cnt + 1)] :=
        .inl (.inl (by rw [upd_ne np, upd_same]))
      obtain ⟨pr, e1, e2, e3⟩ := prime_at (n := cnt + 1) (by omega)
      have bs := base_small h3 h4 (c := cnt + 1) (by omega) (by omega)
      refine ⟨.ref p, rfl, p, _, 2, .int (cnt + 1), rfl, rfl, hS1, rfl, cnt + 1, 5, rfl, rfl, (show (0 : Int) < 5 by decide), l, _, _, .int pr, rfl, rfl, .inl (.inl upd_same), e1, ?_⟩
      refine ⟨.ref p, rfl, p, _, 1, .int mix, rfl, rfl, hS1, rfl, .ref p, rfl, p, _, 2, .int (cnt + 1), rfl, rfl, hS1, rfl, 99991, cnt + 1, rfl, rfl, .inl ⟨by decide, by decide⟩,
        .ref p, rfl, p, _, 2, .int (cnt + 1), rfl, rfl, hS1, rfl, _, cnt + 1, rfl, rfl, .inr ⟨by omega, by omega⟩, mix, _, rfl, rfl, _, 29, rfl, rfl, _, 3, rfl, rfl, ⟨by decide, by decide, natAbs_lt bs.1 bs.2⟩, .int pr, rfl, _, pr, rfl, rfl, e2, ?_⟩
      have mx := mod_pos (a := (mix + 99991 * (cnt + 1) * (cnt + 1) + 29) ^ (3 : Int).toNat) e2
      have mx1 : -(2 ^ 64) < (mix + 99991 * (cnt + 1) * (cnt + 1) + 29) ^ (3 : Int).toNat % pr := Int.lt_of_lt_of_le (by decide) mx.1
      have mx2 : (mix + 99991 * (cnt + 1) * (cnt + 1) + 29) ^ (3 : Int).toNat % pr < 2 ^ 64 := Int.lt_trans mx.2 (Int.lt_trans e3 (by decide))
      refine ⟨_, rfl, _, rfl, _, 10007, rfl, rfl, (show (0 : Int) < 10007 by decide), .ref p, rfl, p, _, 2, .int (cnt + 1), rfl, rfl, hS1, rfl, 71, cnt + 1, rfl, rfl, .inl ⟨by decide, by decide⟩, _, _, rfl, rfl,
        _, _, rfl, rfl, .inl ⟨mx1, mx2⟩, _, _, rfl, rfl, (show (0 : Int) < 2305843009213693907 by decide), _, 103, rfl, rfl, ⟨by decide, by decide⟩, .int b, rfl, _, b, rfl, rfl, b1, ?_⟩
      exact q _ _ (mod_pos b1).1 (mod_pos b1).2 (But.trans .set (.new hl)) ⟨_, by rw [upd_ne np, upd_same]; rfl, own, mix, cnt + 1, rfl, h1, h2, h3, h4, by omega, by omega⟩
theorem scOf : FnScope ["pot", "some"] ["pot", "some"] (defScope sOf) := ⟨rfl, rfl, rfl, by decide +kernel, rfl, by decide +kernel, by decide +kernel⟩
theorem ok_of {f g : Addr} {fd gd : FuncData} {k : Nat} (F : Fun K "_law_of" "_law_of" sOf f fd) (T : Fun K "_law_take" "_law_take" sTake g gd) (gT : mg "_law_take" = some (.ref g)) (bT : Binds K gd ["pot", "bound"] [])
    (ml : mg "len" = none) : FnOk P w K mg base CX0 (k + 2) f fd ["pot", "some"] spOf := by
  have GT : FnOk P w K mg base CX0 (k + 1) g gd ["pot", "bound"] spTake := ok_take T
  refine F.ok scOf (fun vs H Q E h => ?_) (fun cdv A outer s H vs Q E hr h => ?_)
  · obtain ⟨p, a, xs, c, rfl, _⟩ := h
    rfl
  · obtain ⟨p, a, xs, c, rfl, hp, hc, ne, ha, h0, hl, q⟩ := h
    refine ⟨_, pss_one (ps_ret (pe_ix ix_list (pv 1) (pe_call GT hr (by rfl) gT T.kp bT .nil pass0 (pa_cons (pv 0) (pa_cons (pe_callB call_len_seq (by rfl) ml PySem.boot_len (pa_cons (pv 1) pa_nil)) pa_nil))) (fun _ _ => rfl))), ?_⟩
    have hS : SqL K H a xs := .inl (.inl ha)
    have hx : 0 < xs.length := List.length_pos_iff.mpr h0
    refine ⟨.ref a, rfl, .ref p, rfl, .ref a, rfl, a, xs, rfl, .inl hS, p, xs.length, c, rfl, hp, hc, by omega, small_pow hl, fun d H' d0 d1 bt pt => ?_⟩
    obtain ⟨j, rfl⟩ := Int.eq_ofNat_of_zero_le d0
    have hj : j < xs.length := by omega
    have g : xs[j]? = some xs[j] := List.getElem?_eq_getElem hj
    exact ⟨a, xs, j, xs[j], rfl, rfl, bt.sql ne hS, atI_nat g, q j _ H' g bt pt⟩
end
/-! ### the eleven error classes -/
section
variable {P : Program} {w : World} {K : PySem.W.Frag} {mg : Str → Option Value} {base : Heap}
abbrev sI0 : Stmt := initOf (topS 2)
abbrev sI1 : Stmt := initOf (topS 3)
abbrev sI2 : Stmt := initOf (topS 4)
abbrev sI4 : Stmt := initOf (topS 6)
abbrev sI5 : Stmt := initOf (topS 7)
abbrev sI6 : Stmt := initOf (topS 8)
abbrev sI7 : Stmt := initOf (topS 9)
abbrev sI8 : Stmt := initOf (topS 10)
abbrev sI10 : Stmt := initOf (topS 12)
abbrev sI3 : Stmt := initOf (topS 5)
theorem scI0 : FnScope ["self", "text"] ["self", "text"] (defScope sI0) := ⟨rfl, rfl, rfl, by decide +kernel, rfl, by decide +kernel, by decide +kernel⟩
theorem ok_I0 {f C : Addr} {fd : FuncData} {k : Nat} (F : Fun K "__init__" "BadText.__init__" sI0 f fd) : FnOk P w K mg base CX0 (k + 1) f fd ["self", "text"] (spInit1 K C "text") := by
  refine F.ok scI0 (fun vs H Q E h => ?_) (fun cdv A outer s H vs Q E hr h => ?_)
  · obtain ⟨a, v, rfl, _⟩ := h
    rfl
  · obtain ⟨a, v, rfl, ox, ha, no, q⟩ := h
    refine ⟨_, pss_one (ps_ost (pv 0) (pv 1)), ?_⟩
    exact ⟨v, rfl, .ref a, rfl, a, C, rfl, ox, no, .inl ⟨ha, fun dx n ne => q dx n ne⟩⟩
theorem kp0 {f : Addr} {fd : FuncData} (F : Fun K "__init__" "BadText.__init__" sI0 f fd) : KBn K fd ["self", "text"] 2 [] gA gA := fun_kbnA F 2 [] fun _ _ _ _ _ _ us ws l1 l2 => match us, ws, l1, l2 with | [_, _], [], _, _ => rfl
theorem kn0 {f : Addr} {fd : FuncData} (F : Fun K "__init__" "BadText.__init__" sI0 f fd) : KBn K fd ["self", "text"] 1 ["text"] gA gA := fun_kbnA F 1 _ fun _ _ _ _ _ _ us ws l1 l2 => match us, ws, l1, l2 with | [_], [_], _, _ => rfl
theorem scI1 : FnScope ["self", "limit"] ["self", "limit"] (defScope sI1) := ⟨rfl, rfl, rfl, by decide +kernel, rfl, by decide +kernel, by decide +kernel⟩
theorem ok_I1 {f C : Addr} {fd : FuncData} {k : Nat} (F : Fun K "__init__" "TooLong.__init__" sI1 f fd) : FnOk P w K mg base CX0 (k + 1) f fd ["self", "limit"] (spInit1 K C "limit") := by
  refine F.ok scI1 (fun vs H Q E h => ?_) (fun cdv A outer s H vs Q E hr h => ?_)
  · obtain ⟨a, v, rfl, _⟩ := h
    rfl
  · obtain ⟨a, v, rfl, ox, ha, no, q⟩ := h
    refine ⟨_, pss_one (ps_ost (pv 0) (pv 1)), ?_⟩
    exact ⟨v, rfl, .ref a, rfl, a, C, rfl, ox, no, .inl ⟨ha, fun dx n ne => q dx n ne⟩⟩
theorem kp1 {f : Addr} {fd : FuncData} (F : Fun K "__init__" "TooLong.__init__" sI1 f fd) : KBn K fd ["self", "limit"] 2 [] gA gA := fun_kbnA F 2 [] fun _ _ _ _ _ _ us ws l1 l2 => match us, ws, l1, l2 with | [_, _], [], _, _ => rfl
theorem kn1 {f : Addr} {fd : FuncData} (F : Fun K "__init__" "TooLong.__init__" sI1 f fd) : KBn K fd ["self", "limit"] 1 ["limit"] gA gA := fun_kbnA F 1 _ fun _ _ _ _ _ _ us ws l1 l2 => match us, ws, l1, l2 with | [_], [_], _, _ => rfl
theorem scI2 : FnScope ["self", "index"] ["self", "index"] (defScope sI2) := ⟨rfl, rfl, rfl, by decide +kernel, rfl, by decide +kernel, by decide +kernel⟩
theorem ok_I2 {f C : Addr} {fd : FuncData} {k : Nat} (F : Fun K "__init__" "NoIndex.__init__" sI2 f fd) : FnOk P w K mg base CX0 (k + 1) f fd ["self", "index"] (spInit1 K C "index") := by
  refine F.ok scI2 (fun vs H Q E h => ?_) (fun cdv A outer s H vs Q E hr h => ?_)
  · obtain ⟨a, v, rfl, _⟩ := h
    rfl
  · obtain ⟨a, v, rfl, ox, ha, no, q⟩ := h
    refine ⟨_, pss_one (ps_ost (pv 0) (pv 1)), ?_⟩
    exact ⟨v, rfl, .ref a, rfl, a, C, rfl, ox, no, .inl ⟨ha, fun dx n ne => q dx n ne⟩⟩
theorem kp2 {f : Addr} {fd : FuncData} (F : Fun K "__init__" "NoIndex.__init__" sI2 f fd) : KBn K fd ["self", "index"] 2 [] gA gA := fun_kbnA F 2 [] fun _ _ _ _ _ _ us ws l1 l2 => match us, ws, l1, l2 with | [_, _], [], _, _ => rfl
theorem kn2 {f : Addr} {fd : FuncData} (F : Fun K "__init__" "NoIndex.__init__" sI2 f fd) : KBn K fd ["self", "index"] 1 ["index"] gA gA := fun_kbnA F 1 _ fun _ _ _ _ _ _ us ws l1 l2 => match us, ws, l1, l2 with | [_], [_], _, _ => rfl
theorem scI4 : FnScope ["self", "name"] ["self", "name"] (defScope sI4) := ⟨rfl, rfl, rfl, by decide +kernel, rfl, by decide +kernel, by decide +kernel⟩
theorem ok_I4 {f C : Addr} {fd : FuncData} {k : Nat} (F : Fun K "__init__" "BadName.__init__" sI4 f fd) : FnOk P w K mg base CX0 (k + 1) f fd ["self", "name"] (spInit1 K C "name") := by
  refine F.ok scI4 (fun vs H Q E h => ?_) (fun cdv A outer s H vs Q E hr h => ?_)
  · obtain ⟨a, v, rfl, _⟩ := h
    rfl
  · obtain ⟨a, v, rfl, ox, ha, no, q⟩ := h
    refine ⟨_, pss_one (ps_ost (pv 0) (pv 1)), ?_⟩
    exact ⟨v, rfl, .ref a, rfl, a, C, rfl, ox, no, .inl ⟨ha, fun dx n ne => q dx n ne⟩⟩
theorem kp4 {f : Addr} {fd : FuncData} (F : Fun K "__init__" "BadName.__init__" sI4 f fd) : KBn K fd ["self", "name"] 2 [] gA gA := fun_kbnA F 2 [] fun _ _ _ _ _ _ us ws l1 l2 => match us, ws, l1, l2 with | [_, _], [], _, _ => rfl
theorem kn4 {f : Addr} {fd : FuncData} (F : Fun K "__init__" "BadName.__init__" sI4 f fd) : KBn K fd ["self", "name"] 1 ["name"] gA gA := fun_kbnA F 1 _ fun _ _ _ _ _ _ us ws l1 l2 => match us, ws, l1, l2 with | [_], [_], _, _ => rfl
theorem scI5 : FnScope ["self", "runs"] ["self", "runs"] (defScope sI5) := ⟨rfl, rfl, rfl, by decide +kernel, rfl, by decide +kernel, by decide +kernel⟩
theorem ok_I5 {f C : Addr} {fd : FuncData} {k : Nat} (F : Fun K "__init__" "BadRuns.__init__" sI5 f fd) : FnOk P w K mg base CX0 (k + 1) f fd ["self", "runs"] (spInit1 K C "runs") := by
  refine F.ok scI5 (fun vs H Q E h => ?_) (fun cdv A outer s H vs Q E hr h => ?_)
  · obtain ⟨a, v, rfl, _⟩ := h
    rfl
  · obtain ⟨a, v, rfl, ox, ha, no, q⟩ := h
    refine ⟨_, pss_one (ps_ost (pv 0) (pv 1)), ?_⟩
    exact ⟨v, rfl, .ref a, rfl, a, C, rfl, ox, no, .inl ⟨ha, fun dx n ne => q dx n ne⟩⟩
theorem kp5 {f : Addr} {fd : FuncData} (F : Fun K "__init__" "BadRuns.__init__" sI5 f fd) : KBn K fd ["self", "runs"] 2 [] gA gA := fun_kbnA F 2 [] fun _ _ _ _ _ _ us ws l1 l2 => match us, ws, l1, l2 with | [_, _], [], _, _ => rfl
theorem kn5 {f : Addr} {fd : FuncData} (F : Fun K "__init__" "BadRuns.__init__" sI5 f fd) : KBn K fd ["self", "runs"] 1 ["runs"] gA gA := fun_kbnA F 1 _ fun _ _ _ _ _ _ us ws l1 l2 => match us, ws, l1, l2 with | [_], [_], _, _ => rfl
theorem scI6 : FnScope ["self", "times"] ["self", "times"] (defScope sI6) := ⟨rfl, rfl, rfl, by decide +kernel, rfl, by decide +kernel, by decide +kernel⟩
theorem ok_I6 {f C : Addr} {fd : FuncData} {k : Nat} (F : Fun K "__init__" "BadTimes.__init__" sI6 f fd) : FnOk P w K mg base CX0 (k + 1) f fd ["self", "times"] (spInit1 K C "times") := by
  refine F.ok scI6 (fun vs H Q E h => ?_) (fun cdv A outer s H vs Q E hr h => ?_)
  · obtain ⟨a, v, rfl, _⟩ := h
    rfl
  · obtain ⟨a, v, rfl, ox, ha, no, q⟩ := h
    refine ⟨_, pss_one (ps_ost (pv 0) (pv 1)), ?_⟩
    exact ⟨v, rfl, .ref a, rfl, a, C, rfl, ox, no, .inl ⟨ha, fun dx n ne => q dx n ne⟩⟩
theorem kp6 {f : Addr} {fd : FuncData} (F : Fun K "__init__" "BadTimes.__init__" sI6 f fd) : KBn K fd ["self", "times"] 2 [] gA gA := fun_kbnA F 2 [] fun _ _ _ _ _ _ us ws l1 l2 => match us, ws, l1, l2 with | [_, _], [], _, _ => rfl
theorem kn6 {f : Addr} {fd : FuncData} (F : Fun K "__init__" "BadTimes.__init__" sI6 f fd) : KBn K fd ["self", "times"] 1 ["times"] gA gA := fun_kbnA F 1 _ fun _ _ _ _ _ _ us ws l1 l2 => match us, ws, l1, l2 with | [_], [_], _, _ => rfl
theorem scI7 : FnScope ["self", "name"] ["self", "name"] (defScope sI7) := ⟨rfl, rfl, rfl, by decide +kernel, rfl, by decide +kernel, by decide +kernel⟩
theorem ok_I7 {f C : Addr} {fd : FuncData} {k : Nat} (F : Fun K "__init__" "NoName.__init__" sI7 f fd) : FnOk P w K mg base CX0 (k + 1) f fd ["self", "name"] (spInit1 K C "name") := by
  refine F.ok scI7 (fun vs H Q E h => ?_) (fun cdv A outer s H vs Q E hr h => ?_)
  · obtain ⟨a, v, rfl, _⟩ := h
    rfl
  · obtain ⟨a, v, rfl, ox, ha, no, q⟩ := h
    refine ⟨_, pss_one (ps_ost (pv 0) (pv 1)), ?_⟩
    exact ⟨v, rfl, .ref a, rfl, a, C, rfl, ox, no, .inl ⟨ha, fun dx n ne => q dx n ne⟩⟩
theorem kp7 {f : Addr} {fd : FuncData} (F : Fun K "__init__" "NoName.__init__" sI7 f fd) : KBn K fd ["self", "name"] 2 [] gA gA := fun_kbnA F 2 [] fun _ _ _ _ _ _ us ws l1 l2 => match us, ws, l1, l2 with | [_, _], [], _, _ => rfl
theorem kn7 {f : Addr} {fd : FuncData} (F : Fun K "__init__" "NoName.__init__" sI7 f fd) : KBn K fd ["self", "name"] 1 ["name"] gA gA := fun_kbnA F 1 _ fun _ _ _ _ _ _ us ws l1 l2 => match us, ws, l1, l2 with | [_], [_], _, _ => rfl
theorem scI8 : FnScope ["self", "limit"] ["self", "limit"] (defScope sI8) := ⟨rfl, rfl, rfl, by decide +kernel, rfl, by decide +kernel, by decide +kernel⟩
theorem ok_I8 {f C : Addr} {fd : FuncData} {k : Nat} (F : Fun K "__init__" "TooMany.__init__" sI8 f fd) : FnOk P w K mg base CX0 (k + 1) f fd ["self", "limit"] (spInit1 K C "limit") := by
  refine F.ok scI8 (fun vs H Q E h => ?_) (fun cdv A outer s H vs Q E hr h => ?_)
  · obtain ⟨a, v, rfl, _⟩ := h
    rfl
  · obtain ⟨a, v, rfl, ox, ha, no, q⟩ := h
    refine ⟨_, pss_one (ps_ost (pv 0) (pv 1)), ?_⟩
    exact ⟨v, rfl, .ref a, rfl, a, C, rfl, ox, no, .inl ⟨ha, fun dx n ne => q dx n ne⟩⟩
theorem kp8 {f : Addr} {fd : FuncData} (F : Fun K "__init__" "TooMany.__init__" sI8 f fd) : KBn K fd ["self", "limit"] 2 [] gA gA := fun_kbnA F 2 [] fun _ _ _ _ _ _ us ws l1 l2 => match us, ws, l1, l2 with | [_, _], [], _, _ => rfl
theorem kn8 {f : Addr} {fd : FuncData} (F : Fun K "__init__" "TooMany.__init__" sI8 f fd) : KBn K fd ["self", "limit"] 1 ["limit"] gA gA := fun_kbnA F 1 _ fun _ _ _ _ _ _ us ws l1 l2 => match us, ws, l1, l2 with | [_], [_], _, _ => rfl
theorem scI10 : FnScope ["self", "line"] ["self", "line"] (defScope sI10) := ⟨rfl, rfl, rfl, by decide +kernel, rfl, by decide +kernel, by decide +kernel⟩
theorem ok_I10 {f C : Addr} {fd : FuncData} {k : Nat} (F : Fun K "__init__" "BadLine.__init__" sI10 f fd) : FnOk P w K mg base CX0 (k + 1) f fd ["self", "line"] (spInit1 K C "line") := by
  refine F.ok scI10 (fun vs H Q E h => ?_) (fun cdv A outer s H vs Q E hr h => ?_)
  · obtain ⟨a, v, rfl, _⟩ := h
    rfl
  · obtain ⟨a, v, rfl, ox, ha, no, q⟩ := h
    refine ⟨_, pss_one (ps_ost (pv 0) (pv 1)), ?_⟩
    exact ⟨v, rfl, .ref a, rfl, a, C, rfl, ox, no, .inl ⟨ha, fun dx n ne => q dx n ne⟩⟩
theorem kp10 {f : Addr} {fd : FuncData} (F : Fun K "__init__" "BadLine.__init__" sI10 f fd) : KBn K fd ["self", "line"] 2 [] gA gA := fun_kbnA F 2 [] fun _ _ _ _ _ _ us ws l1 l2 => match us, ws, l1, l2 with | [_, _], [], _, _ => rfl
theorem kn10 {f : Addr} {fd : FuncData} (F : Fun K "__init__" "BadLine.__init__" sI10 f fd) : KBn K fd ["self", "line"] 1 ["line"] gA gA := fun_kbnA F 1 _ fun _ _ _ _ _ _ us ws l1 l2 => match us, ws, l1, l2 with | [_], [_], _, _ => rfl
/-- .. of two values -/
def spInit2 (K : PySem.W.Frag) (C : Addr) (f g : Str) : Sp := fun vs H Q _ => ∃ (a : Addr) (v u : V), vs = [.ref a, v, u] ∧ OexC K C ∧ H a = some (exo a C none) ∧ PySem.W.findIn K (.ref C) f = some none ∧ PySem.W.findIn K (.ref C) g = some none ∧
  ∀ dx, H dx = none → dx ≠ a → Q .non (upd (upd (upd H dx (exd dx [(f, v)])) a (exo a C (some dx))) dx (exd dx [(g, u), (f, v)]))
theorem scI3 : FnScope ["self", "start", "stop"] ["self", "start", "stop"] (defScope sI3) := ⟨rfl, rfl, rfl, by decide +kernel, rfl, by decide +kernel, by decide +kernel⟩
theorem ok_I3 {f C : Addr} {fd : FuncData} {k : Nat} (F : Fun K "__init__" "NoRange.__init__" sI3 f fd) : FnOk P w K mg base CX0 (k + 1) f fd ["self", "start", "stop"] (spInit2 K C "start" "stop") := by
  refine F.ok scI3 (fun vs H Q E h => ?_) (fun cdv A outer s H vs Q E hr h => ?_)
  · obtain ⟨a, v, u, rfl, _⟩ := h
    rfl
  · obtain ⟨a, v, u, rfl, ox, ha, no, no2, q⟩ := h
    refine ⟨_, pss_cons (ps_ost (pv 0) (pv 1)) (pss_one (ps_ost (pv 0) (pv 2))), ?_⟩
    refine ⟨v, rfl, .ref a, rfl, a, C, rfl, ox, no, .inl ⟨ha, fun dx n ne => ?_⟩⟩
    exact ⟨u, rfl, .ref a, rfl, a, C, rfl, ox, no2, .inr ⟨dx, [("start", v)], upd_same, by rw [upd_ne ne, upd_same], (by show 1 ≤ 900; decide), q dx n ne⟩⟩
theorem kp3 {f : Addr} {fd : FuncData} (F : Fun K "__init__" "NoRange.__init__" sI3 f fd) : KBn K fd ["self", "start", "stop"] 3 [] gA gA := fun_kbnA F 3 [] fun _ _ _ _ _ _ us ws l1 l2 => match us, ws, l1, l2 with | [_, _, _], [], _, _ => rfl
theorem kn3 {f : Addr} {fd : FuncData} (F : Fun K "__init__" "NoRange.__init__" sI3 f fd) : KBn K fd ["self", "start", "stop"] 1 ["stop", "start"] gB gB := fun_kbnB F 1 _ fun _ _ _ _ _ _ us ws l1 l2 => match us, ws, l1, l2 with | [_], [_, _], _, _ => rfl
structure Cls0 (K : PySem.W.Frag) (mg : Str → Option Value) (x : Str) (C : Addr) : Prop where
  g : mg x = some (.ref C)
  ox : OexC K C
  er : ErrC K C
  iC : PySem.W.findIn K (.ref C) "__init__" = some (some (.builtin "ValueError.__init__"))
def pick (l : List Addr) (i : Nat) : Addr := l.getD i 0
/-- what is known of the error classes -/
structure Errs (K : PySem.W.Frag) (mg : Str → Option Value) where
  {cB : Addr} {c0 : Addr} {c1 : Addr} {c2 : Addr} {c3 : Addr} {c4 : Addr} {c5 : Addr} {c6 : Addr} {c7 : Addr} {c8 : Addr} {c9 : Addr} {c10 : Addr}
  {i0 : Addr} {d0 : FuncData} {i1 : Addr} {d1 : FuncData} {i2 : Addr} {d2 : FuncData} {i3 : Addr} {d3 : FuncData} {i4 : Addr} {d4 : FuncData} {i5 : Addr} {d5 : FuncData} {i6 : Addr} {d6 : FuncData} {i7 : Addr} {d7 : FuncData} {i8 : Addr} {d8 : FuncData} {i10 : Addr} {d10 : FuncData}
  gB : mg "BlockError" = some (.ref cB)
  t0 : Cls1 K mg "BadText" "BadText.__init__" "text" sI0 c0 i0 d0
  t1 : Cls1 K mg "TooLong" "TooLong.__init__" "limit" sI1 c1 i1 d1
  t2 : Cls1 K mg "NoIndex" "NoIndex.__init__" "index" sI2 c2 i2 d2
  t4 : Cls1 K mg "BadName" "BadName.__init__" "name" sI4 c4 i4 d4
  t5 : Cls1 K mg "BadRuns" "BadRuns.__init__" "runs" sI5 c5 i5 d5
  t6 : Cls1 K mg "BadTimes" "BadTimes.__init__" "times" sI6 c6 i6 d6
  t7 : Cls1 K mg "NoName" "NoName.__init__" "name" sI7 c7 i7 d7
  t8 : Cls1 K mg "TooMany" "TooMany.__init__" "limit" sI8 c8 i8 d8
  t10 : Cls1 K mg "BadLine" "BadLine.__init__" "line" sI10 c10 i10 d10
  t3 : Cls2 K mg "NoRange" "NoRange.__init__" "start" "stop" sI3 c3 i3 d3
  t9 : Cls0 K mg "NothingToUndo" c9
  kit : ∀ i j, i < 11 → j < 11 → PySem.W.kitOne K (.ref (pick [c0, c1, c2, c3, c4, c5, c6, c7, c8, c9, c10] i)) (.ref (pick [c0, c1, c2, c3, c4, c5, c6, c7, c8, c9, c10] j)) = some (decide (i = j))
  kB : ∀ i, i < 11 → PySem.W.kitOne K (.ref (pick [c0, c1, c2, c3, c4, c5, c6, c7, c8, c9, c10] i)) (.ref cB) = some true
  kV : ∀ i, i < 11 → PySem.W.kitOne K (.ref (pick [c0, c1, c2, c3, c4, c5, c6, c7, c8, c9, c10] i)) (.type "ValueError") = some true
def Errs.C {K : PySem.W.Frag} {mg : Str → Option Value} (F : Errs K mg) : Nat → Addr := pick [F.c0, F.c1, F.c2, F.c3, F.c4, F.c5, F.c6, F.c7, F.c8, F.c9, F.c10]
theorem Errs.er {K : PySem.W.Frag} {mg : Str → Option Value} (F : Errs K mg) : ∀ i, i < 11 → ErrC K (F.C i)
  | 0, _ => F.t0.er
  | 1, _ => F.t1.er
  | 2, _ => F.t2.er
  | 3, _ => F.t3.er
  | 4, _ => F.t4.er
  | 5, _ => F.t5.er
  | 6, _ => F.t6.er
  | 7, _ => F.t7.er
  | 8, _ => F.t8.er
  | 9, _ => F.t9.er
  | 10, _ => F.t10.er
  | _ + 11, h => absurd h (by omega)
end
end C00

set_option Elab.async false
set_option linter.all false
set_option maxRecDepth 100000
namespace C00
open PySem PySem.Spec PyProof.Rows L2 Loc RZ
/-! ### their kinds and values -/
section
variable {P : Program} {w : World} {K : PySem.W.Frag} {mg : Str → Option Value} {base : Heap}
theorem seq_if {T : TT} {t u : TS} {D : Ends} {σ : L2.St} {H : Hp} (S : Bool → Hp → Prop) (h : ∀ R : Bool → Hp → Prop, (∀ b H', S b H' → R b H') → T σ H R) (yes : ∀ H', S true H' → t { D with nx := u D } σ H') (no : ∀ H', S false H' → u D σ H') : tSeq (tIfS T t tNext) u D σ H :=
  h _ fun b H' hs => by
    cases b with
    | true =>
      rw [if_pos rfl]
      exact yes H' hs
    | false =>
      rw [if_neg Bool.false_ne_true]
      exact no H' hs
theorem nx3 {f : L2.St → Hp → Prop} {rt : VK} {bk ct : L2.St → Hp → Prop} {i : Nat} {v : V} {σ : L2.St} {H : Hp} (h : f (σ.set i (some v)) H) : gName i v σ H (Ends.mk f rt bk ct).nx := h
/-- the kinds of an error of the class i -/
def kinds (i : Nat) : List Bool := (List.range 11).map fun j => decide (i = j)
def spKinds (F : Errs K mg) : Sp := fun vs H Q _ => ∃ (e : Addr) (i : Nat), vs = [.ref e] ∧ i < 11 ∧ ExA H e (F.C i) ∧ ∀ H' a, Same H H' → H' a = some (.lst ((kinds i).map V.bl)) → Q (.ref a) H'
theorem scKinds : FnScope ["error", "found"] ["error"] (defScope s__law_kinds) := ⟨rfl, rfl, rfl, by decide +kernel, rfl, by decide +kernel, by decide +kernel⟩
theorem ok_kinds {f : Addr} {fd : FuncData} {k : Nat} (F : Errs K mg) (G : Fun K "_law_kinds" "_law_kinds" s__law_kinds f fd) (mi : mg "isinstance" = none) : FnOk P w K mg base CX0 (k + 1) f fd ["error"] (spKinds F) := by
  refine G.ok scKinds (fun vs H Q E h => ?_) (fun cdv A outer s H vs Q E hr h => ?_)
  · obtain ⟨e, i, rfl, _⟩ := h
    rfl
  · obtain ⟨e, i, rfl, hi, hE, q⟩ := h
    refine ⟨_, pss_cons (ps_set (i := 1) scKinds.nd rfl (.inl rfl) (pe_lst
        (pa_cons (pe_callB call_isX (by rfl) mi PyProof.Rows.boot_isinstance (pa_cons (pv 0) (pa_cons (pe_glob (v := .ref F.c0) (by rfl) F.t0.g rfl) pa_nil)))
        (pa_cons (pe_callB call_isX (by rfl) mi PyProof.Rows.boot_isinstance (pa_cons (pv 0) (pa_cons (pe_glob (v := .ref F.c1) (by rfl) F.t1.g rfl) pa_nil)))
        (pa_cons (pe_callB call_isX (by rfl) mi PyProof.Rows.boot_isinstance (pa_cons (pv 0) (pa_cons (pe_glob (v := .ref F.c2) (by rfl) F.t2.g rfl) pa_nil))) pa_nil)))))
      (pss_cons (ps_set (i := 1) scKinds.nd rfl (.inl rfl) (pe_op op_cat (pv 1) (pe_lst
        (pa_cons (pe_callB call_isX (by rfl) mi PyProof.Rows.boot_isinstance (pa_cons (pv 0) (pa_cons (pe_glob (v := .ref F.c3) (by rfl) F.t3.g rfl) pa_nil)))
        (pa_cons (pe_callB call_isX (by rfl) mi PyProof.Rows.boot_isinstance (pa_cons (pv 0) (pa_cons (pe_glob (v := .ref F.c4) (by rfl) F.t4.g rfl) pa_nil)))
        (pa_cons (pe_callB call_isX (by rfl) mi PyProof.Rows.boot_isinstance (pa_cons (pv 0) (pa_cons (pe_glob (v := .ref F.c5) (by rfl) F.t5.g rfl) pa_nil))) pa_nil))))))
      (pss_cons (ps_set (i := 1) scKinds.nd rfl (.inl rfl) (pe_op op_cat (pv 1) (pe_lst
        (pa_cons (pe_callB call_isX (by rfl) mi PyProof.Rows.boot_isinstance (pa_cons (pv 0) (pa_cons (pe_glob (v := .ref F.c6) (by rfl) F.t6.g rfl) pa_nil)))
        (pa_cons (pe_callB call_isX (by rfl) mi PyProof.Rows.boot_isinstance (pa_cons (pv 0) (pa_cons (pe_glob (v := .ref F.c7) (by rfl) F.t7.g rfl) pa_nil)))
        (pa_cons (pe_callB call_isX (by rfl) mi PyProof.Rows.boot_isinstance (pa_cons (pv 0) (pa_cons (pe_glob (v := .ref F.c8) (by rfl) F.t8.g rfl) pa_nil))) pa_nil))))))
      (pss_one (ps_ret (pe_op op_cat (pv 1) (pe_lst
        (pa_cons (pe_callB call_isX (by rfl) mi PyProof.Rows.boot_isinstance (pa_cons (pv 0) (pa_cons (pe_glob (v := .ref F.c9) (by rfl) F.t9.g rfl) pa_nil)))
        (pa_cons (pe_callB call_isX (by rfl) mi PyProof.Rows.boot_isinstance (pa_cons (pv 0) (pa_cons (pe_glob (v := .ref F.c10) (by rfl) F.t10.g rfl) pa_nil))) pa_nil)))))))), ?_⟩
    have er := F.er i hi
    have kk : ∀ j, j < 11 → PySem.W.kitOne K (.ref (F.C i)) (.ref (F.C j)) = some (decide (i = j)) := fun j hj => F.kit i j hi hj
    refine ⟨.ref e, rfl, e, F.C i, _, _, decide (i = 0), rfl, hE, er, .own _, kk 0 (by decide), .ref e, rfl, e, F.C i, _, _, decide (i = 1), rfl, hE, er, .own _, kk 1 (by decide), .ref e, rfl, e, F.C i, _, _, decide (i = 2), rfl, hE, er, .own _, kk 2 (by decide), (show 3 ≤ sizeLine from by decide), fun l1 n1 => ?_⟩
    have s1 := sameN (o := .lst [.bl (decide (i = 0)), .bl (decide (i = 1)), .bl (decide (i = 2))]) n1
    have g1 : (upd H l1 (.lst [.bl (decide (i = 0)), .bl (decide (i = 1)), .bl (decide (i = 2))])) l1 = _ := upd_same
    generalize upd H l1 (.lst [.bl (decide (i = 0)), .bl (decide (i = 1)), .bl (decide (i = 2))]) = H1 at s1 g1 ⊢
    have E1 := hE.same s1
    refine ⟨.ref l1, rfl, .ref e, rfl, e, F.C i, _, _, decide (i = 3), rfl, E1, er, .own _, kk 3 (by decide), .ref e, rfl, e, F.C i, _, _, decide (i = 4), rfl, E1, er, .own _, kk 4 (by decide), .ref e, rfl, e, F.C i, _, _, decide (i = 5), rfl, E1, er, .own _, kk 5 (by decide), (show 3 ≤ sizeLine from by decide), fun l2 n2 => ?_⟩
    have s2 := sameN (o := .lst [.bl (decide (i = 3)), .bl (decide (i = 4)), .bl (decide (i = 5))]) n2
    refine ⟨l1, l2, _, _, rfl, rfl, s2 _ _ g1, upd_same, (show 3 + 3 ≤ sizeLine from by decide), fun l3 n3 => ?_⟩
    have s3 := (s1.trans s2).trans (sameN (o := .lst ([.bl (decide (i = 0)), .bl (decide (i = 1)), .bl (decide (i = 2))] ++ [.bl (decide (i = 3)), .bl (decide (i = 4)), .bl (decide (i = 5))])) n3)
    have g3 : (upd (upd H1 l2 (.lst [.bl (decide (i = 3)), .bl (decide (i = 4)), .bl (decide (i = 5))])) l3 (.lst ([.bl (decide (i = 0)), .bl (decide (i = 1)), .bl (decide (i = 2))] ++ [.bl (decide (i = 3)), .bl (decide (i = 4)), .bl (decide (i = 5))]))) l3 = _ := upd_same
    generalize upd (upd H1 l2 (.lst [.bl (decide (i = 3)), .bl (decide (i = 4)), .bl (decide (i = 5))])) l3 (.lst ([.bl (decide (i = 0)), .bl (decide (i = 1)), .bl (decide (i = 2))] ++ [.bl (decide (i = 3)), .bl (decide (i = 4)), .bl (decide (i = 5))])) = H3 at s3 g3 ⊢
    have E3 := hE.same s3
    refine ⟨.ref l3, rfl, .ref e, rfl, e, F.C i, _, _, decide (i = 6), rfl, E3, er, .own _, kk 6 (by decide), .ref e, rfl, e, F.C i, _, _, decide (i = 7), rfl, E3, er, .own _, kk 7 (by decide), .ref e, rfl, e, F.C i, _, _, decide (i = 8), rfl, E3, er, .own _, kk 8 (by decide), (show 3 ≤ sizeLine from by decide), fun l4 n4 => ?_⟩
    have s4 := sameN (o := .lst [.bl (decide (i = 6)), .bl (decide (i = 7)), .bl (decide (i = 8))]) n4
    refine ⟨l3, l4, _, _, rfl, rfl, s4 _ _ g3, upd_same, (show 6 + 3 ≤ sizeLine from by decide), fun l5 n5 => ?_⟩
    have s5 := (s3.trans s4).trans (sameN (o := .lst (([.bl (decide (i = 0)), .bl (decide (i = 1)), .bl (decide (i = 2))] ++ [.bl (decide (i = 3)), .bl (decide (i = 4)), .bl (decide (i = 5))]) ++ [.bl (decide (i = 6)), .bl (decide (i = 7)), .bl (decide (i = 8))])) n5)
    have g5 : (upd (upd H3 l4 (.lst [.bl (decide (i = 6)), .bl (decide (i = 7)), .bl (decide (i = 8))])) l5 (.lst (([.bl (decide (i = 0)), .bl (decide (i = 1)), .bl (decide (i = 2))] ++ [.bl (decide (i = 3)), .bl (decide (i = 4)), .bl (decide (i = 5))]) ++ [.bl (decide (i = 6)), .bl (decide (i = 7)), .bl (decide (i = 8))]))) l5 = _ := upd_same
    generalize upd (upd H3 l4 (.lst [.bl (decide (i = 6)), .bl (decide (i = 7)), .bl (decide (i = 8))])) l5 (.lst (([.bl (decide (i = 0)), .bl (decide (i = 1)), .bl (decide (i = 2))] ++ [.bl (decide (i = 3)), .bl (decide (i = 4)), .bl (decide (i = 5))]) ++ [.bl (decide (i = 6)), .bl (decide (i = 7)), .bl (decide (i = 8))])) = H5 at s5 g5 ⊢
    have E5 := hE.same s5
    refine ⟨.ref l5, rfl, .ref e, rfl, e, F.C i, _, _, decide (i = 9), rfl, E5, er, .own _, kk 9 (by decide), .ref e, rfl, e, F.C i, _, _, decide (i = 10), rfl, E5, er, .own _, kk 10 (by decide), (show 2 ≤ sizeLine from by decide), fun l6 n6 => ?_⟩
    have s6 := sameN (o := .lst [.bl (decide (i = 9)), .bl (decide (i = 10))]) n6
    refine ⟨l5, l6, _, _, rfl, rfl, s6 _ _ g5, upd_same, (show 9 + 2 ≤ sizeLine from by decide), fun l7 n7 => ?_⟩
    exact q _ l7 ((s5.trans s6).trans (sameN n7)) upd_same
/-- the attributes of an error of the class i -/
def fsAt (tv mv : V) : Nat → List (Str × V)
  | 0 => [("text", tv)] | 1 => [("limit", tv)] | 2 => [("index", tv)] | 3 => [("stop", mv), ("start", tv)] | 4 => [("name", tv)] | 5 => [("runs", tv)] | 6 => [("times", tv)] | 7 => [("name", tv)] | 8 => [("limit", tv)] | 9 => [] | _ => [("line", tv)]
def spValue (F : Errs K mg) : Sp := fun vs H Q _ => ∃ (e : Addr) (tv mv : V) (i : Nat), vs = [.ref e] ∧ i < 11 ∧ i ≠ 3 ∧ i ≠ 9 ∧ Ex H e (F.C i) (fsAt tv mv i) ∧ ∀ H', Same H H' → Q tv H'
theorem scValue : FnScope ["error"] ["error"] (defScope s__law_value) := ⟨rfl, rfl, rfl, by decide +kernel, rfl, by decide +kernel, by decide +kernel⟩
theorem kit_two {K : PySem.W.Frag} {t a b : Value} {x y : Bool} (h1 : PySem.W.kitOne K t a = some x) (h2 : PySem.W.kitOne K t b = some y) : PySem.W.kitAny K t [a, b] = some (x || y) := by
  cases x <;> cases y <;> simp [PySem.W.kitAny, h1, h2]
theorem ok_value {f : Addr} {fd : FuncData} {k : Nat} (F : Errs K mg) (G : Fun K "_law_value" "_law_value" s__law_value f fd) (mi : mg "isinstance" = none) : FnOk P w K mg base CX0 (k + 1) f fd ["error"] (spValue F) := by
  refine G.ok scValue (fun vs H Q E h => ?_) (fun cdv A outer s H vs Q E hr h => ?_)
  · obtain ⟨e, tv, mv, i, rfl, _⟩ := h
    rfl
  · obtain ⟨e, tv, mv, i, rfl, hi, h3, h9, hE, q⟩ := h
    refine ⟨_, pss_cons (ps_if (pt_val (pe_callB call_isX (by rfl) mi PyProof.Rows.boot_isinstance (pa_cons (pv 0) (pa_cons (pe_glob (v := .ref F.c0) (by rfl) F.t0.g rfl) pa_nil)))) (pss_one (ps_ret (pe_exf (pv 0)))) pss_nil)
      (pss_cons (ps_if (pt_val (pe_callB call_isXT (by rfl) mi PyProof.Rows.boot_isinstance (pa_cons (pv 0) (pa_cons (pe_tup (pa_cons (pe_glob (v := .ref F.c1) (by rfl) F.t1.g rfl) (pa_cons (pe_glob (v := .ref F.c8) (by rfl) F.t8.g rfl) pa_nil))) pa_nil)))) (pss_one (ps_ret (pe_exf (pv 0)))) pss_nil)
      (pss_cons (ps_if (pt_val (pe_callB call_isX (by rfl) mi PyProof.Rows.boot_isinstance (pa_cons (pv 0) (pa_cons (pe_glob (v := .ref F.c2) (by rfl) F.t2.g rfl) pa_nil)))) (pss_one (ps_ret (pe_exf (pv 0)))) pss_nil)
      (pss_cons (ps_if (pt_val (pe_callB call_isXT (by rfl) mi PyProof.Rows.boot_isinstance (pa_cons (pv 0) (pa_cons (pe_tup (pa_cons (pe_glob (v := .ref F.c4) (by rfl) F.t4.g rfl) (pa_cons (pe_glob (v := .ref F.c7) (by rfl) F.t7.g rfl) pa_nil))) pa_nil)))) (pss_one (ps_ret (pe_exf (pv 0)))) pss_nil)
      (pss_cons (ps_if (pt_val (pe_callB call_isX (by rfl) mi PyProof.Rows.boot_isinstance (pa_cons (pv 0) (pa_cons (pe_glob (v := .ref F.c5) (by rfl) F.t5.g rfl) pa_nil)))) (pss_one (ps_ret (pe_exf (pv 0)))) pss_nil)
      (pss_one (ps_ret (pe_ifExp (pt_val (pe_callB call_isX (by rfl) mi PyProof.Rows.boot_isinstance (pa_cons (pv 0) (pa_cons (pe_glob (v := .ref F.c6) (by rfl) F.t6.g rfl) pa_nil)))) (pe_exf (pv 0)) (pe_exf (pv 0))))))))), ?_⟩
    have er := F.er i hi
    have kk : ∀ j, j < 11 → PySem.W.kitOne K (.ref (F.C i)) (.ref (F.C j)) = some (decide (i = j)) := fun j hj => F.kit i j hi hj
    refine seq_if (fun b H' => b = decide (i = 0) ∧ H' = H) (fun R hR => ⟨.ref e, rfl, e, F.C i, _, _, decide (i = 0), rfl, .inr ⟨_, hE⟩, er, .own _, kk 0 (by decide), _, rfl, hR _ _ ⟨rfl, rfl⟩⟩) (fun H1 h1 => ?_) (fun H1 h1 => ?_)
    · obtain ⟨e1, rfl⟩ := h1
      have e1 := of_decide_eq_true e1.symm
      subst e1
      exact ⟨.ref e, rfl, e, F.c0, _, tv, rfl, hE, er, F.t0.no, rfl, q _ (Same.refl _)⟩
    obtain ⟨e0, rfl⟩ := h1
    have e0 := of_decide_eq_false e0.symm
    refine seq_if (fun b H' => b = (decide (i = 1) || decide (i = 8)) ∧ Same H1 H') (fun R hR => ⟨.ref e, rfl, (show 2 ≤ sizeLine from by decide), fun t nt => ⟨e, F.C i, t, _, [.ref F.c1, .ref F.c8], _, rfl, .inr ⟨_, hE.same (sameN nt)⟩, er, upd_same, .cons (.own _) (.cons (.own _) .nil), kit_two (kk 1 (by decide)) (kk 8 (by decide)), _, rfl, hR _ _ ⟨rfl, sameN nt⟩⟩⟩) (fun H2 h2 => ?_) (fun H2 h2 => ?_)
    · obtain ⟨e1, s2⟩ := h2
      have e1 := e1.symm
      rw [Bool.or_eq_true, decide_eq_true_eq, decide_eq_true_eq] at e1
      rcases e1 with rfl | rfl
      · exact ⟨.ref e, rfl, e, F.c1, _, tv, rfl, hE.same s2, er, F.t1.no, rfl, q _ s2⟩
      · exact ⟨.ref e, rfl, e, F.c8, _, tv, rfl, hE.same s2, er, F.t8.no, rfl, q _ s2⟩
    obtain ⟨e1, s2⟩ := h2
    have e1 := e1.symm
    rw [Bool.or_eq_false_iff, decide_eq_false_iff_not, decide_eq_false_iff_not] at e1
    have E2 := hE.same s2
    refine seq_if (fun b H' => b = decide (i = 2) ∧ H' = H2) (fun R hR => ⟨.ref e, rfl, e, F.C i, _, _, decide (i = 2), rfl, .inr ⟨_, E2⟩, er, .own _, kk 2 (by decide), _, rfl, hR _ _ ⟨rfl, rfl⟩⟩) (fun H3 h3 => ?_) (fun H3 h3' => ?_)
    · obtain ⟨e1, rfl⟩ := h3
      have e1 := of_decide_eq_true e1.symm
      subst e1
      exact ⟨.ref e, rfl, e, F.c2, _, tv, rfl, E2, er, F.t2.no, rfl, q _ s2⟩
    obtain ⟨e2, rfl⟩ := h3'
    have e2 := of_decide_eq_false e2.symm
    refine seq_if (fun b H' => b = (decide (i = 4) || decide (i = 7)) ∧ Same H3 H') (fun R hR => ⟨.ref e, rfl, (show 2 ≤ sizeLine from by decide), fun t nt => ⟨e, F.C i, t, _, [.ref F.c4, .ref F.c7], _, rfl, .inr ⟨_, E2.same (sameN nt)⟩, er, upd_same, .cons (.own _) (.cons (.own _) .nil), kit_two (kk 4 (by decide)) (kk 7 (by decide)), _, rfl, hR _ _ ⟨rfl, sameN nt⟩⟩⟩) (fun H4 h4 => ?_) (fun H4 h4 => ?_)
    · obtain ⟨e4, s4⟩ := h4
      have e4 := e4.symm
      rw [Bool.or_eq_true, decide_eq_true_eq, decide_eq_true_eq] at e4
      rcases e4 with rfl | rfl
      · exact ⟨.ref e, rfl, e, F.c4, _, tv, rfl, E2.same s4, er, F.t4.no, rfl, q _ (s2.trans s4)⟩
      · exact ⟨.ref e, rfl, e, F.c7, _, tv, rfl, E2.same s4, er, F.t7.no, rfl, q _ (s2.trans s4)⟩
    obtain ⟨e4, s4⟩ := h4
    have e4 := e4.symm
    rw [Bool.or_eq_false_iff, decide_eq_false_iff_not, decide_eq_false_iff_not] at e4
    have E4 := E2.same s4
    refine seq_if (fun b H' => b = decide (i = 5) ∧ H' = H4) (fun R hR => ⟨.ref e, rfl, e, F.C i, _, _, decide (i = 5), rfl, .inr ⟨_, E4⟩, er, .own _, kk 5 (by decide), _, rfl, hR _ _ ⟨rfl, rfl⟩⟩) (fun H5 h5 => ?_) (fun H5 h5 => ?_)
    · obtain ⟨e5, rfl⟩ := h5
      have e5 := of_decide_eq_true e5.symm
      subst e5
      exact ⟨.ref e, rfl, e, F.c5, _, tv, rfl, E4, er, F.t5.no, rfl, q _ (s2.trans s4)⟩
    obtain ⟨e5, rfl⟩ := h5
    have e5 := of_decide_eq_false e5.symm
    refine ⟨.ref e, rfl, e, F.C i, _, _, decide (i = 6), rfl, .inr ⟨_, E4⟩, er, .own _, kk 6 (by decide), _, rfl, ?_⟩
    by_cases e6 : i = 6
    · subst e6
      exact iteT ⟨.ref e, rfl, e, F.c6, _, tv, rfl, E4, er, F.t6.no, rfl, q _ (s2.trans s4)⟩
    · obtain rfl : i = 10 := by omega
      exact iteF ⟨.ref e, rfl, e, F.c10, _, tv, rfl, E4, er, F.t10.no, rfl, q _ (s2.trans s4)⟩
end
end C00

set_option Elab.async false
set_option linter.all false
set_option maxRecDepth 100000
namespace C00
open PySem PySem.Spec PyProof.Rows L2 Loc RZ
set_option maxHeartbeats 0 in
structure Facts (K : PySem.W.Frag) (mg : Str → Option Value) where
  {ul_pot : Addr} {vl_pot : FuncData}
  fl_pot : Fun K "_law_pot" "_law_pot" sPot ul_pot vl_pot
  gl_pot : mg "_law_pot" = some (.ref ul_pot)
  bl_pot : Binds K vl_pot ["script", "k"] []
  {ul_take : Addr} {vl_take : FuncData}
  fl_take : Fun K "_law_take" "_law_take" sTake ul_take vl_take
  gl_take : mg "_law_take" = some (.ref ul_take)
  bl_take : Binds K vl_take ["pot", "bound"] []
  {ul_of : Addr} {vl_of : FuncData}
  fl_of : Fun K "_law_of" "_law_of" sOf ul_of vl_of
  gl_of : mg "_law_of" = some (.ref ul_of)
  bl_of : Binds K vl_of ["pot", "some"] []
  {ul_odd : Addr} {vl_odd : FuncData}
  fl_odd : Fun K "_law_odd" "_law_odd" sOdd ul_odd vl_odd
  gl_odd : mg "_law_odd" = some (.ref ul_odd)
  bl_odd : Binds K vl_odd ["pot", "deep"] []
  {ul_kinds : Addr} {vl_kinds : FuncData}
  fl_kinds : Fun K "_law_kinds" "_law_kinds" s__law_kinds ul_kinds vl_kinds
  gl_kinds : mg "_law_kinds" = some (.ref ul_kinds)
  bl_kinds : Binds K vl_kinds ["error"] []
  {ul_value : Addr} {vl_value : FuncData}
  fl_value : Fun K "_law_value" "_law_value" s__law_value ul_value vl_value
  gl_value : mg "_law_value" = some (.ref ul_value)
  bl_value : Binds K vl_value ["error"] []
  ValueError : mg "ValueError" = none
  abs : mg "abs" = none
  enumerate : mg "enumerate" = none
  int : mg "int" = none
  isinstance : mg "isinstance" = none
  len : mg "len" = none
  max : mg "max" = none
  min : mg "min" = none
  range : mg "range" = none
  repr : mg "repr" = none

/-! ### a value of any kind -/
section
variable {P : Program} {w : World} {K : PySem.W.Frag} {mg : Str → Option Value} {base : Heap}
/-- deep: how often at most a value is wrapped -/
def spOdd (K : PySem.W.Frag) : Sp := fun vs H Q _ => ∃ (p : Addr) (S : Addr → Prop) (deep c : Nat), vs = [.ref p, .int deep] ∧ deep ≤ 50 ∧ S p ∧ Kp S H ∧ Pot H p c ∧ c < 900000 ∧
  ∀ v d H', But p H H' → Dq K (wo S H') v d → sm 0 (deep + 4) (4 * deep + 24) d → Pot H' p (c + 60) → Q v H'
def oddA : List PyData := [.none, .bool true, .bool false, .int (-1), .int 0, .int 1, .int ((10 : Int) ^ (9 : Int).toNat + 1), .str "", .str "run", .str "7", .str "block", .tuple [], .list [], .dict [], .tuple [.int 7], .tuple [.int 7, .int 1], .tuple [.tuple [.int 7, .int 1]]]
def oddB : List PyData := [.tuple [.str "run", .int 7, .int 1], .tuple [.str "block", .tuple [.int 1, .int 2]], .tuple [.str "run", .int 7, .int 2]]
theorem odd_sm : ∀ d ∈ oddA ++ oddB, sm 0 3 20 d := by
  have h : (oddA ++ oddB).all (smB 0 3 20) = true := by decide +kernel
  intro d hd
  exact sm_of (List.all_eq_true.mp h d hd)
theorem Dq.sm1 {d e : PyData} {t m b : Nat} (h : sm t m b d) (ht : t ≤ 5) : (e = .tuple [d] ∨ e = .list [d] ∨ e = .dict [(.str "a", d)] ∨ e = .tuple [d, .int 1]) → sm t (m + 1) (b + 4) e := by
  obtain ⟨h1, h2, h3⟩ := h
  have i1 : nc t (.int 1) = true := by
    rw [nc]
    exact decide_eq_true (Nat.le_trans (show 1 ≤ 1 * 10 ^ 60 by decide) (Nat.mul_le_mul_right _ (by omega)))
  have i2 : nc t (.str "a") = true := nc_up (Nat.zero_le t) _ (by decide +kernel)
  rintro (rfl | rfl | rfl | rfl)
  · refine ⟨?_, ?_, ?_⟩
    · simp [nc, ncAll, h1]
    · simp [PyData.depth, PyData.depthAll]
      omega
    · simp [PyData.bulk, PyData.bulkAll]
      omega
  · refine ⟨?_, ?_, ?_⟩
    · simp [nc, ncAll, h1]
    · simp [PyData.depth, PyData.depthAll]
      omega
    · simp [PyData.bulk, PyData.bulkAll]
      omega
  · refine ⟨?_, ?_, ?_⟩
    · rw [nc, ncKv, ncKv, h1, i2]
      rfl
    · simp [PyData.depth, PyData.depthKv]
      omega
    · have e1 : PyData.bulk (.str "a") = 1 := by rfl
      simp [PyData.bulk, PyData.bulkKv]
      simp [PyData.bulk] at e1
      omega
  · refine ⟨?_, ?_, ?_⟩
    · simp [nc, ncAll, h1]
      rw [nc] at i1
      simpa using i1
    · simp [PyData.depth, PyData.depthAll]
      omega
    · simp [PyData.bulk, PyData.bulkAll]
      omega
theorem scOdd : FnScope ["pot", "deep", "some", "thing", "turn"] ["pot", "deep"] (defScope sOdd) := ⟨rfl, rfl, rfl, by decide +kernel, rfl, by decide +kernel, by decide +kernel⟩
set_option maxHeartbeats 0 in
theorem ok_odd {f fT fO : Addr} {fd dT dO : FuncData} (F : Fun K "_law_odd" "_law_odd" sOdd f fd) (T : Fun K "_law_take" "_law_take" sTake fT dT) (gT : mg "_law_take" = some (.ref fT)) (bT : Binds K dT ["pot", "bound"] [])
    (O : Fun K "_law_of" "_law_of" sOf fO dO) (gO : mg "_law_of" = some (.ref fO)) (bO : Binds K dO ["pot", "some"] []) (ml : mg "len" = none) (mr : mg "range" = none) : FnOk P w K mg base CX0 3 f fd ["pot", "deep"] (spOdd K) := by
  have GO : FnOk P w K mg base CX0 2 fO dO ["pot", "some"] spOf := ok_of O T gT bT ml
  refine F.ok scOdd (fun vs H Q E h => ?_) (fun cdv A outer s H vs Q E hr h => ?_)
  · obtain ⟨p, S, deep, c, rfl, _⟩ := h
    rfl
  · obtain ⟨p, S, deep, c, rfl, hd, hSp, hS, hp, hc, q⟩ := h
    refine ⟨_, pss_cons (ps_set (i := 2) scOdd.nd rfl (.inl rfl) (pe_lst (pa_cons pe_non (pa_cons pe_bl (pa_cons pe_bl (pa_cons (pe_un un_neg pe_int) (pa_cons pe_int (pa_cons pe_int (pa_cons (pe_op op_add (pe_op op_pow pe_int pe_int) pe_int)
          (pa_cons pe_str (pa_cons pe_str (pa_cons pe_str (pa_cons pe_str (pa_cons (pe_tup pa_nil) (pa_cons (pe_lst pa_nil) (pa_cons pe_dnewK (pa_cons (pe_tup (pa_cons pe_int pa_nil)) (pa_cons (pe_tup (pa_cons pe_int (pa_cons pe_int pa_nil)))
          (pa_cons (pe_tup (pa_cons (pe_tup (pa_cons pe_int (pa_cons pe_int pa_nil))) pa_nil)) pa_nil)))))))))))))))))))
      (pss_cons (ps_set (i := 3) scOdd.nd rfl (.inl rfl) (pe_call GO hr (by rfl) gO O.kp bO .nil pass0 (pa_cons (pv 0) (pa_cons (pe_op op_cat (pv 2) (pe_lst (pa_cons (pe_tup (pa_cons pe_str (pa_cons pe_int (pa_cons pe_int pa_nil))))
          (pa_cons (pe_tup (pa_cons pe_str (pa_cons (pe_tup (pa_cons pe_int (pa_cons pe_int pa_nil))) pa_nil))) (pa_cons (pe_tup (pa_cons pe_str (pa_cons pe_int (pa_cons pe_int pa_nil)))) pa_nil))))) pa_nil))))
      (pss_cons (ps_for PassesOwn.never rfl (pi_range1 (by rfl) mr (pa_cons (pe_call GO hr (by rfl) gO O.kp bO .nil pass0 (pa_cons (pv 0) (pa_cons (pe_lst (pa_cons pe_int (pa_cons pe_int (pa_cons pe_int (pa_cons pe_int (pa_cons (pv 1) pa_nil)))))) pa_nil))) pa_nil))
          (pg_name (i := 4) scOdd.nd rfl (.inl rfl))
        (pss_one (ps_set (i := 3) scOdd.nd rfl (.inl rfl) (pe_call GO hr (by rfl) gO O.kp bO .nil pass0 (pa_cons (pv 0) (pa_cons (pe_lst (pa_cons (pe_tup (pa_cons (pv 3) pa_nil)) (pa_cons (pe_lst (pa_cons (pv 3) pa_nil))
          (pa_cons (pe_disp (pps_cons pe_str (pv 3) pps_nil) rfl rfl (by decide) (by decide)) (pa_cons (pe_tup (pa_cons (pv 3) (pa_cons pe_int pa_nil))) pa_nil))))) pa_nil))))))
      (pss_one (ps_ret (pv 3))))), ?_⟩
    refine seq_asg ?_
    refine lst_new (K := K) (ds := oddA) hS ?mq (by decide) fun H1 a1 vs1 s1 n1 e1 k1 ne1 => ?_
    case mq => exact (MQs.cons .non (.cons (.bl true) (.cons (.bl false) (.cons (.ofInt fun H Q q => ⟨_, rfl, q⟩) (.cons (.int _) (.cons (.int _) (.cons (.ofInt fun H Q q => ⟨10, 9, rfl, rfl, ⟨by decide, by decide, by decide⟩, _, 1, rfl, rfl, q⟩)
      (.cons (.str _) (.cons (.str _) (.cons (.str _) (.cons (.str _) (.cons (.tup hS .nil (by decide)) (.cons (.lst hS .nil (by decide)) (.cons (.dct0 hS) (.cons (.tup hS (.cons (.int _) .nil) (by decide)) (.cons (.tup hS (.cons (.int _) (.cons (.int _) .nil)) (by decide))
      (.cons (.tup hS (.cons (.tup hS (.cons (.int _) (.cons (.int _) .nil)) (by decide)) .nil) (by decide)) .nil)))))))))))))))))
    refine ⟨.ref p, rfl, .ref a1, rfl, ?_⟩
    have ho1 := hS.up s1
    refine lst_new (K := K) (ds := oddB) ho1 (MQs.cons (.tup ho1 (.cons (.str _) (.cons (.int _) (.cons (.int _) .nil))) (by decide)) (.cons (.tup ho1 (.cons (.str _) (.cons (.tup ho1 (.cons (.int _) (.cons (.int _) .nil)) (by decide)) .nil)) (by decide))
      (.cons (.tup ho1 (.cons (.str _) (.cons (.int _) (.cons (.int _) .nil))) (by decide)) .nil))) (by decide) fun H2 a2 vs2 s2 n2 e2 k2 ne2 => ?_
    have l1 : vs1.length = 17 := k1.len
    have l2 : vs2.length = 3 := k2.len
    refine ⟨a1, a2, vs1, vs2, rfl, rfl, s2 _ _ e1, e2, by rw [l1, l2]; decide, fun a3 n3 => ?_⟩
    have s12 := s1.trans s2
    have ho2 := hS.up s12
    have ne3 : a3 ≠ p := fun z => ho2.new n3 (by rw [z]; exact hSp)
    have p3 : Pot (upd H2 a3 (.lst (vs1 ++ vs2))) p c := by
      obtain ⟨o', e', r'⟩ := hp
      exact ⟨o', by rw [upd_ne ne3.symm]; exact s12 _ _ e', r'⟩
    have k3 : DqAll K (wo S (upd H2 a3 (.lst (vs1 ++ vs2)))) (vs1 ++ vs2) (oddA ++ oddB) := ((k1.up (wo_up s2)).app k2).up (wo_up (sameN n3))
    refine ⟨p, a3, _, c, rfl, p3, by omega, ne3, upd_same, fun z => ?_, ?_, fun j x H4 hj b4 p4 => ?_⟩
    · have := congrArg List.length z
      rw [List.length_append, l1, l2] at this
      cases this
    · rw [List.length_append, l1, l2]
      decide
    obtain ⟨d, hdj, hx⟩ := k3.get hj
    have sm0 := odd_sm d (List.mem_of_getElem? hdj)
    have b04 : But p H H4 := (Same.but (s12.trans (sameN n3))).trans b4
    replace hx := hx.up (But.wo hSp b4)
    refine ⟨.ref p, rfl, .int deep, rfl, (show 5 ≤ sizeLine from by decide), fun l5 n5 => ?_⟩
    refine ⟨p, l5, _, _, rfl, p4.new n5, by omega, p4.ne n5, upd_same, List.cons_ne_nil _ _, (show 5 ≤ 1000 from by decide), fun j2 x2 H5 hj2 b5 p5 => ?_⟩
    obtain ⟨n, rfl, hn⟩ : ∃ n : Nat, x2 = .int n ∧ n ≤ max 1 deep := by
      have := List.mem_of_getElem? hj2
      simp only [List.mem_cons, List.not_mem_nil, or_false] at this
      rcases this with rfl | rfl | rfl | rfl | rfl
      · exact ⟨0, rfl, by omega⟩
      · exact ⟨0, rfl, by omega⟩
      · exact ⟨0, rfl, by omega⟩
      · exact ⟨1, rfl, by omega⟩
      · exact ⟨deep, rfl, by omega⟩
    have b05 : But p H H5 := b04.trans ((But.new n5).trans b5)
    have hx5 := (hx.up (wo_up (sameN n5))).up (But.wo hSp b5)
    refine ⟨n, rfl, by omega, by omega, ?_⟩
    refine for_range (n := n) (fun i σ H' => ∃ v d y4, σ = [some (.ref p), some (.int deep), some (.ref a1), some v, y4] ∧ But p H H' ∧ Dq K (wo S H') v d ∧ sm 0 (3 + i) (20 + 4 * i) d ∧ Pot H' p (c + 2 + i)) ⟨x, d, none, rfl, b05, hx5, sm0, p5⟩ (fun i σ H' hi hp' => ?_) (fun σ H' hp' => ?_)
    · obtain ⟨v, d, y4, rfl, b6, hv, sd, p6⟩ := hp'
      have hi' : i < n := hi
      refine ⟨.ref p, rfl, ?_⟩
      have ho6 := hS.but b6 p6
      refine lst_new (K := K) (ds := [.tuple [d], .list [d], .dict [(.str "a", d)], .tuple [d, .int 1]]) ho6 (MQs.cons (.tup ho6 (.cons (.v rfl hv) .nil) (show 1 ≤ 1000 by decide)) (.cons (.lst ho6 (.cons (.v rfl hv) .nil) (show 1 ≤ 1000 by decide)) (.cons (.dct1 ho6 rfl hv)
        (.cons (.tup ho6 (.cons (.v rfl hv) (.cons (.int _) .nil)) (show 2 ≤ 1000 by decide)) .nil)))) (show 4 ≤ 1000 by decide) fun H7 a7 vs7 s7 n7 e7 k7 ne7 => ?_
      have p7 : Pot H7 p (c + 2 + i) := by
        obtain ⟨o', e', r'⟩ := p6
        exact ⟨o', s7 _ _ e', r'⟩
      have l7 : vs7.length = 4 := k7.len
      refine ⟨p, a7, vs7, _, rfl, p7, by omega, (fun z => ne7 (by rw [z]; exact hSp)), e7, (fun z => by rw [z] at l7; cases l7), (by rw [l7]; decide), fun j x H8 hj b8 p8 => ?_⟩
      obtain ⟨d8, hd8, hx8⟩ := k7.get hj
      have key := Dq.sm1 (e := d8) sd (by decide) (by
        have := List.mem_of_getElem? hd8
        simpa only [List.mem_cons, List.not_mem_nil, or_false] using this)
      exact ⟨x, d8, _, rfl, b6.trans ((Same.but s7).trans b8), hx8.up (But.wo hSp b8), key.up (by omega) (by omega) (by omega), p8.le (by omega)⟩
    · obtain ⟨v, d, y4, rfl, b6, hv, sd, p6⟩ := hp'
      exact ⟨v, rfl, q v d H' b6 hv (sd.up (by omega) (by omega) (by omega)) (p6.le (by omega))⟩
end
end C00

set_option Elab.async false
set_option linter.all false
set_option maxRecDepth 100000
namespace C00
open PySem PySem.Spec PyProof.Rows L2 Loc RZ
/-! ### errors of the eleven classes, one behind the other -/
section
variable {P : Program} {w : World} {K : PySem.W.Frag} {mg : Str → Option Value} {base : Heap}
theorem seq_asg {te : TE} {g : TG} {t : TS} {D : Ends} {σ : L2.St} {H : Hp} (h : te σ H fun v H1 => g v σ H1 fun σ' H' => t D σ' H') : tSeq (tAsg te g) t D σ H := h
/-- such an error of the class i -/
def ErrAt (F : Errs K mg) (tv mv : V) (H : Hp) (a : Addr) (i : Nat) : Prop := ExA H a (F.C i) ∧ (i ≠ 9 → Ex H a (F.C i) (fsAt tv mv i))
theorem ErrAt.same {F : Errs K mg} {tv mv : V} {H H' : Hp} {a : Addr} {i : Nat} (h : ErrAt F tv mv H a i) (s : Same H H') : ErrAt F tv mv H' a i := ⟨h.1.same s, fun n => (h.2 n).same s⟩
def Errl (F : Errs K mg) (tv mv : V) (H : Hp) (vs : List V) (i : Nat) : Prop := ∀ j v, vs[j]? = some v → ∃ a, v = .ref a ∧ ErrAt F tv mv H a (i + j)
theorem Errl.same {F : Errs K mg} {tv mv : V} {H H' : Hp} {vs : List V} {i : Nat} (h : Errl F tv mv H vs i) (s : Same H H') : Errl F tv mv H' vs i := fun j v e => let ⟨a, e1, e2⟩ := h j v e; ⟨a, e1, e2.same s⟩
theorem Errl.app {F : Errs K mg} {tv mv : V} {H : Hp} {vs us : List V} {i : Nat} (h : Errl F tv mv H vs i) (k : Errl F tv mv H us (i + vs.length)) : Errl F tv mv H (vs ++ us) i := fun j v e => by
  by_cases c : j < vs.length
  · rw [List.getElem?_append_left c] at e
    exact h j v e
  · rw [List.getElem?_append_right (by omega)] at e
    obtain ⟨a, e1, e2⟩ := k _ v e
    exact ⟨a, e1, by rw [show i + j = i + vs.length + (j - vs.length) by omega]; exact e2⟩
def ME (F : Errs K mg) (tv mv : V) (σ : L2.St) (te : TE) (i : Nat) : Prop := ∀ (H : Hp) (Q : VK), (∀ H' a, Same H H' → ErrAt F tv mv H' a i → Q (.ref a) H') → te σ H Q
def MEs (F : Errs K mg) (tv mv : V) (σ : L2.St) (ta : TA) (i n : Nat) : Prop := ∀ (H : Hp) (Q : List V → Hp → Prop), (∀ H' vs, Same H H' → vs.length = n → Errl F tv mv H' vs i → Q vs H') → ta σ H Q
theorem MEs.nil {F : Errs K mg} {tv mv : V} {σ : L2.St} {i : Nat} : MEs F tv mv σ tNil i 0 := fun H Q q => q H [] (Same.refl H) rfl fun j v e => nomatch e
theorem MEs.cons {F : Errs K mg} {tv mv : V} {σ : L2.St} {te : TE} {ta : TA} {i n : Nat} (h : ME F tv mv σ te i) (t : MEs F tv mv σ ta (i + 1) n) : MEs F tv mv σ (tCons te ta) i (n + 1) := fun H Q q =>
  h H _ fun H1 a s1 e1 => t H1 _ fun H2 vs s2 l2 e2 => q H2 (.ref a :: vs) (s1.trans s2) (by rw [List.length_cons, l2]) fun j v e => by
    cases j with
    | zero =>
      injection e with e
      exact ⟨a, e.symm, e1.same s2⟩
    | succ j =>
      obtain ⟨b, e3, e4⟩ := e2 j v e
      exact ⟨b, e3, by rw [show i + (j + 1) = i + 1 + j by omega]; exact e4⟩
theorem mk_ex {H : Hp} {a dx C : Addr} {fs : List (Str × V)} (na : H a = none) (nd : (upd H a (exo a C none)) dx = none) (ne : dx ≠ a) :
    Same H (upd (upd (upd H a (exo a C none)) dx (exd dx fs)) a (exo a C (some dx))) ∧ Ex (upd (upd (upd H a (exo a C none)) dx (exd dx fs)) a (exo a C (some dx))) a C fs := by
  rw [upd_ne ne] at nd
  refine ⟨fun b o e => ?_, dx, upd_same, by rw [upd_ne ne, upd_same]⟩
  have n1 : b ≠ a := fun z => by rw [z, na] at e; cases e
  have n2 : b ≠ dx := fun z => by rw [z, nd] at e; cases e
  rw [upd_ne n1, upd_ne n2, upd_ne n1]
  exact e
theorem me1 (F : Errs K mg) {tv mv : V} {σ : L2.St} {i j : Nat} {x q f : Str} {st : Stmt} {C fI : Addr} {fd : FuncData} (T : Cls1 K mg x q f st C fI fd) (hv : σ[j]? = some (some tv)) (hC : F.C i = C) (hf : fsAt tv mv i = [(f, tv)]) :
    ME F tv mv σ (tErr C 1 0 (spInit1 K C f) gA (tCons (tVar j) tNil) tNil) i := fun H Q k => by
  refine ⟨tv, hv, rfl, rfl, by decide, fun a na => ⟨a, tv, rfl, T.ox, upd_same, T.no, fun dx nd ne => ⟨rfl, ?_⟩⟩⟩
  obtain ⟨s, e⟩ := mk_ex (fs := [(f, tv)]) na nd ne
  have key : ∀ H3 : Hp, Ex H3 a C [(f, tv)] → Ex H3 a (F.C i) (fsAt tv mv i) := fun H3 h => by rw [hC, hf]; exact h
  exact k _ a s ⟨.inr ⟨_, key _ e⟩, fun _ => key _ e⟩
theorem me1K (F : Errs K mg) {tv mv : V} {σ : L2.St} {i j : Nat} {x q f : Str} {st : Stmt} {C fI : Addr} {fd : FuncData} (T : Cls1 K mg x q f st C fI fd) (hv : σ[j]? = some (some tv)) (hC : F.C i = C) (hf : fsAt tv mv i = [(f, tv)]) :
    ME F tv mv σ (tErr C 0 1 (spInit1 K C f) gA tNil (tCons (tVar j) tNil)) i := fun H Q k => by
  refine ⟨tv, hv, rfl, rfl, by decide, fun a na => ⟨a, tv, rfl, T.ox, upd_same, T.no, fun dx nd ne => ⟨rfl, ?_⟩⟩⟩
  obtain ⟨s, e⟩ := mk_ex (fs := [(f, tv)]) na nd ne
  have key : ∀ H3 : Hp, Ex H3 a C [(f, tv)] → Ex H3 a (F.C i) (fsAt tv mv i) := fun H3 h => by rw [hC, hf]; exact h
  exact k _ a s ⟨.inr ⟨_, key _ e⟩, fun _ => key _ e⟩
theorem mk_ex2 {H : Hp} {a dx C : Addr} {fs gs : List (Str × V)} (na : H a = none) (nd : (upd H a (exo a C none)) dx = none) (ne : dx ≠ a) :
    Same H (upd (upd (upd (upd H a (exo a C none)) dx (exd dx fs)) a (exo a C (some dx))) dx (exd dx gs)) ∧ Ex (upd (upd (upd (upd H a (exo a C none)) dx (exd dx fs)) a (exo a C (some dx))) dx (exd dx gs)) a C gs := by
  rw [upd_ne ne] at nd
  refine ⟨fun b o e => ?_, dx, by rw [upd_ne ne.symm, upd_same], upd_same⟩
  have n1 : b ≠ a := fun z => by rw [z, na] at e; cases e
  have n2 : b ≠ dx := fun z => by rw [z, nd] at e; cases e
  rw [upd_ne n2, upd_ne n1, upd_ne n2, upd_ne n1]
  exact e
theorem me2 (F : Errs K mg) {tv mv : V} {σ : L2.St} {i j : Nat} (hv : σ[i]? = some (some tv)) (hm : σ[j]? = some (some mv)) :
    ME F tv mv σ (tErr F.c3 2 0 (spInit2 K F.c3 "start" "stop") gA (tCons (tVar i) (tCons (tVar j) tNil)) tNil) 3 := fun H Q k => by
  refine ⟨tv, hv, mv, hm, rfl, rfl, by decide, fun a na => ⟨a, tv, mv, rfl, F.t3.ox, upd_same, F.t3.no, F.t3.no2, fun dx nd ne => ⟨rfl, ?_⟩⟩⟩
  obtain ⟨s, e⟩ := mk_ex2 (fs := [("start", tv)]) (gs := [("stop", mv), ("start", tv)]) na nd ne
  exact k _ a s ⟨.inr ⟨_, e⟩, fun _ => e⟩
theorem me2K (F : Errs K mg) {tv mv : V} {σ : L2.St} {i j : Nat} (hv : σ[i]? = some (some tv)) (hm : σ[j]? = some (some mv)) :
    ME F tv mv σ (tErr F.c3 0 2 (spInit2 K F.c3 "start" "stop") gB tNil (tCons (tVar j) (tCons (tVar i) tNil))) 3 := fun H Q k => by
  refine ⟨mv, hm, tv, hv, rfl, rfl, by decide, fun a na => ⟨a, tv, mv, rfl, F.t3.ox, upd_same, F.t3.no, F.t3.no2, fun dx nd ne => ⟨rfl, ?_⟩⟩⟩
  obtain ⟨s, e⟩ := mk_ex2 (fs := [("start", tv)]) (gs := [("stop", mv), ("start", tv)]) na nd ne
  exact k _ a s ⟨.inr ⟨_, e⟩, fun _ => e⟩
theorem me0 (F : Errs K mg) {tv mv : V} {σ : L2.St} {C : Addr} (hC : F.C 9 = C) : ME F tv mv σ (tErr0 C) 9 := fun H Q k => fun a na => by
  subst hC
  exact k _ a (sameN na) ⟨.inl upd_same, fun n => absurd rfl n⟩
/-- a list of such errors -/
theorem lst_es {F : Errs K mg} {tv mv : V} {σ : L2.St} {ta : TA} {i n : Nat} {H : Hp} {Q : VK} (h : MEs F tv mv σ ta i n) (hn : n ≤ 1000) (q : ∀ H' L vs, Same H H' → H L = none → H' L = some (.lst vs) → vs.length = n → Errl F tv mv H' vs i → Q (.ref L) H') : tLst ta σ H Q :=
  h H _ fun H1 vs s1 l1 e1 => ⟨by rw [l1]; exact Nat.le_trans hn (by decide), fun L nL => q _ L vs (s1.trans (sameN nL)) (by
    cases z : H L with
    | none => rfl
    | some o =>
      have := s1 _ _ z
      rw [nL] at this
      cases this) upd_same l1 (e1.same (sameN nL))⟩
theorem for_enumL {K : PySem.W.Frag} {a : Addr} {xs : List V} {g : TG} {tb : TS} {D : Ends} {σ : L2.St} {H : Hp} (Pv : Nat → L2.St → Hp → Prop) (h0 : Pv 0 σ H) (hl : ∀ i σ H, Pv i σ H → SqL K H a xs)
    (hs : ∀ i x T σ H1, xs[i]? = some x → Pv i σ H1 → H1 T = none → g (.ref T) σ (upd H1 T (.tup [.int (i : Nat), x])) fun σ2 H2 => tb { nx := Pv (i + 1), rt := D.rt, bk := D.nx, ct := Pv (i + 1) } σ2 H2)
    (hd : ∀ i σ H', Pv i σ H' → xs.length ≤ i → D.nx σ H') :
    ∃ W : Nat → Nat → L2.St → Hp → Prop, (∃ m, W 0 m σ H) ∧ ∀ i m σ H, W i m σ H →
      ((Ite K a).stop i H ∧ D.nx σ H) ∨ ((Ite K a).go i H ∧ ∃ N : L2.St → Hp → Prop, (∀ σ' H', N σ' H' → ∃ m', m' < m ∧ W (i + 1) m' σ' H') ∧ ∀ x H', (Ite K a).yld i H x H' → g x σ H' fun σ2 H2 => tb { nx := N, rt := D.rt, bk := D.nx, ct := N } σ2 H2) := by
  refine ⟨fun i m σ H => m = xs.length - i ∧ Pv i σ H, ⟨_, rfl, h0⟩, ?_⟩
  rintro i m σ H ⟨rfl, p⟩
  have k1 := hl i σ H p
  by_cases c : i < xs.length
  · obtain ⟨x, gx⟩ := get_of c
    refine .inr ⟨⟨xs, x, k1, gx⟩, Pv (i + 1), fun σ' H' p' => ⟨xs.length - (i + 1), by omega, rfl, p'⟩, fun z H' hy => ?_⟩
    obtain ⟨T, x', rfl, hT, rfl, f1⟩ := hy
    have ex : x' = x := Option.some.inj ((f1 _ k1).symm.trans gx)
    subst ex
    exact hs i _ T σ H gx p hT
  · exact .inl ⟨⟨xs, k1, by omega⟩, hd i σ H p (by omega)⟩
theorem dpb {H : Hp} : ∀ bs : List Bool, DpAll K H (bs.map V.bl) (bs.map PyData.bool)
  | [] => .nil
  | b :: r => .cons (.bl b) (dpb r)
theorem kinds_sh (i : Nat) (hi : i < 11) : SeqAt.shaped (.list ((kinds i).map PyData.bool)) = true := by
  have h : (List.range 11).all (fun i => SeqAt.shaped (.list ((kinds i).map PyData.bool))) = true := by decide +kernel
  exact List.all_eq_true.mp h i (List.mem_range.mpr hi)
theorem spot_eq (i j : Nat) : V.bl (decide (V.int (0 + (j : Int)) = V.int (i : Nat))) = V.bl (decide (i = j)) := by
  congr 1
  rw [decide_eq_decide]
  constructor
  · intro h
    have : (0 + (j : Int)) = (i : Int) := by injection h
    omega
  · rintro rfl
    rw [Int.zero_add]
theorem sm_l2 {d e : PyData} (h : sm 0 13 60 d) (k : sm 0 13 60 e) : sm 0 14 122 (.list [d, e]) := (sm_tup (ds := [d, e]) (fun x hx => by
  simp only [List.mem_cons, List.not_mem_nil, or_false] at hx
  rcases hx with rfl | rfl
  · exact h
  · exact k) 2 (Nat.le_refl _)).2
abbrev nmLaw : List Str := ["script", "k", "pot", "thing", "more", "some", "others", "lot", "at", "error", "spot"]
theorem scLaw : FnScope nmLaw ["script"] (defScope sLaw) := ⟨rfl, rfl, rfl, by decide +kernel, rfl, by decide +kernel, by decide +kernel⟩
def spLaw (K : PySem.W.Frag) : Sp := fun vs H Q _ => ∃ (a : Addr) (ns : List Int), vs = [.ref a] ∧ SqL K H a (ns.map V.int) ∧ ns.length ≤ 63 ∧ ∀ H', Q (.bl true) H'
set_option maxHeartbeats 0 in
theorem ok_law {f : Addr} {fd : FuncData} (F : Fun K "law" "law" sLaw f fd) (X : Facts K mg) (EF : Errs K mg) : FnG P w K mg base CX0 8 f fd ["script"] (spLaw K) := by
  have GP : FnOk P w K mg base CX0 1 X.ul_pot X.vl_pot ["script", "k"] (spPot K) := ok_pot X.fl_pot X.len X.abs X.int
  have GO : FnOk P w K mg base CX0 3 X.ul_odd X.vl_odd ["pot", "deep"] (spOdd K) := ok_odd X.fl_odd X.fl_take X.gl_take X.bl_take X.fl_of X.gl_of X.bl_of X.len X.range
  have GK : FnOk P w K mg base CX0 1 X.ul_kinds X.vl_kinds ["error"] (spKinds EF) := ok_kinds EF X.fl_kinds X.isinstance
  have GV : FnOk P w K mg base CX0 1 X.ul_value X.vl_value ["error"] (spValue EF) := ok_value EF X.fl_value X.isinstance
  have I0 : FnOk P w K mg base CX0 1 EF.i0 EF.d0 ["self", "text"] (spInit1 K EF.c0 "text") := ok_I0 EF.t0.F
  have I1 : FnOk P w K mg base CX0 1 EF.i1 EF.d1 ["self", "limit"] (spInit1 K EF.c1 "limit") := ok_I1 EF.t1.F
  have I2 : FnOk P w K mg base CX0 1 EF.i2 EF.d2 ["self", "index"] (spInit1 K EF.c2 "index") := ok_I2 EF.t2.F
  have I4 : FnOk P w K mg base CX0 1 EF.i4 EF.d4 ["self", "name"] (spInit1 K EF.c4 "name") := ok_I4 EF.t4.F
  have I5 : FnOk P w K mg base CX0 1 EF.i5 EF.d5 ["self", "runs"] (spInit1 K EF.c5 "runs") := ok_I5 EF.t5.F
  have I6 : FnOk P w K mg base CX0 1 EF.i6 EF.d6 ["self", "times"] (spInit1 K EF.c6 "times") := ok_I6 EF.t6.F
  have I7 : FnOk P w K mg base CX0 1 EF.i7 EF.d7 ["self", "name"] (spInit1 K EF.c7 "name") := ok_I7 EF.t7.F
  have I8 : FnOk P w K mg base CX0 1 EF.i8 EF.d8 ["self", "limit"] (spInit1 K EF.c8 "limit") := ok_I8 EF.t8.F
  have I10 : FnOk P w K mg base CX0 1 EF.i10 EF.d10 ["self", "line"] (spInit1 K EF.c10 "line") := ok_I10 EF.t10.F
  have I3 : FnOk P w K mg base CX0 1 EF.i3 EF.d3 ["self", "start", "stop"] (spInit2 K EF.c3 "start" "stop") := ok_I3 EF.t3.F
  refine fun_okG F scLaw (fun vs H Q E h => ?_) (fun cdv A outer s H vs Q E hg hr h => ?_)
  · obtain ⟨a, ns, rfl, _⟩ := h
    rfl
  · obtain ⟨a, ns, rfl, hS, hlen, q⟩ := h
    have r1 := hr.mono (j := 1) (by omega)
    have r2 := hr.mono (j := 1 + 1) (by omega)
    have r3 := hr.mono (j := 3) (by omega)
    refine ⟨_, pss_cons (ps_for PassesOwn.never rfl (pi_range1 (by rfl) X.range (pa_cons (pe_callB (L2.call_max2 rfl) (by rfl) X.max (by decide +kernel) (pa_cons pe_int (pa_cons (pe_callB (L2.call_min2 rfl) (by rfl) X.min (by decide +kernel)
            (pa_cons pe_int (pa_cons (pe_callB call_len_seq (by rfl) X.len PySem.boot_len (pa_cons (pv 0) pa_nil)) pa_nil))) pa_nil))) pa_nil)) (pg_name (i := 1) scLaw.nd rfl (.inl rfl))
        (pss_cons (ps_set (i := 2) scLaw.nd rfl (.inl rfl) (pe_call GP r1 (by rfl) X.gl_pot X.fl_pot.kp X.bl_pot .nil pass0 (pa_cons (pv 0) (pa_cons (pv 1) pa_nil))))
        (pss_cons (ps_par (i := 3) (j := 4) (by rfl) scLaw.nd rfl rfl (by decide) rfl rfl (pa_cons (pe_call GO r3 (by rfl) X.gl_odd X.fl_odd.kp X.bl_odd .nil pass0 (pa_cons (pv 2) (pa_cons pe_int pa_nil)))
            (pa_cons (pe_call GO r3 (by rfl) X.gl_odd X.fl_odd.kp X.bl_odd .nil pass0 (pa_cons (pv 2) (pa_cons pe_int pa_nil))) pa_nil)) (by rfl))
        (pss_cons (ps_set (i := 5) scLaw.nd rfl (.inl rfl) (pe_lst (pa_cons (pe_err EF.t0.ox EF.t0.iC EF.t0.tI I0 r2 (kp0 EF.t0.F) (by rfl) EF.t0.g (pa_cons (pv 3) pa_nil))
            (pa_cons (pe_err EF.t1.ox EF.t1.iC EF.t1.tI I1 r2 (kp1 EF.t1.F) (by rfl) EF.t1.g (pa_cons (pv 3) pa_nil))
            (pa_cons (pe_err EF.t2.ox EF.t2.iC EF.t2.tI I2 r2 (kp2 EF.t2.F) (by rfl) EF.t2.g (pa_cons (pv 3) pa_nil))
            (pa_cons (pe_err EF.t3.ox EF.t3.iC EF.t3.tI I3 r2 (kp3 EF.t3.F) (by rfl) EF.t3.g (pa_cons (pv 3) (pa_cons (pv 4) pa_nil)))
            (pa_cons (pe_err EF.t4.ox EF.t4.iC EF.t4.tI I4 r2 (kp4 EF.t4.F) (by rfl) EF.t4.g (pa_cons (pv 3) pa_nil))
            (pa_cons (pe_err EF.t5.ox EF.t5.iC EF.t5.tI I5 r2 (kp5 EF.t5.F) (by rfl) EF.t5.g (pa_cons (pv 3) pa_nil))
            pa_nil))))))))
        (pss_cons (ps_set (i := 5) scLaw.nd rfl (.inl rfl) (pe_op op_cat (pv 5) (pe_lst (pa_cons (pe_err EF.t6.ox EF.t6.iC EF.t6.tI I6 r2 (kp6 EF.t6.F) (by rfl) EF.t6.g (pa_cons (pv 3) pa_nil))
            (pa_cons (pe_err EF.t7.ox EF.t7.iC EF.t7.tI I7 r2 (kp7 EF.t7.F) (by rfl) EF.t7.g (pa_cons (pv 3) pa_nil))
            (pa_cons (pe_err EF.t8.ox EF.t8.iC EF.t8.tI I8 r2 (kp8 EF.t8.F) (by rfl) EF.t8.g (pa_cons (pv 3) pa_nil))
            (pa_cons (pe_err0 EF.t9.ox EF.t9.iC (by rfl) EF.t9.g)
            (pa_cons (pe_err EF.t10.ox EF.t10.iC EF.t10.tI I10 r2 (kp10 EF.t10.F) (by rfl) EF.t10.g (pa_cons (pv 3) pa_nil))
            pa_nil))))))))
        (pss_cons (ps_set (i := 6) scLaw.nd rfl (.inl rfl) (pe_lst (pa_cons (pe_errK EF.t0.ox EF.t0.iC EF.t0.tI I0 r2 (kn0 EF.t0.F) (by rfl) EF.t0.g (pk_cons (pv 3) pk_nil))
            (pa_cons (pe_errK EF.t1.ox EF.t1.iC EF.t1.tI I1 r2 (kn1 EF.t1.F) (by rfl) EF.t1.g (pk_cons (pv 3) pk_nil))
            (pa_cons (pe_errK EF.t2.ox EF.t2.iC EF.t2.tI I2 r2 (kn2 EF.t2.F) (by rfl) EF.t2.g (pk_cons (pv 3) pk_nil))
            (pa_cons (pe_errK EF.t3.ox EF.t3.iC EF.t3.tI I3 r2 (kn3 EF.t3.F) (by rfl) EF.t3.g (pk_cons (pv 4) (pk_cons (pv 3) pk_nil)))
            pa_nil))))))
        (pss_cons (ps_set (i := 6) scLaw.nd rfl (.inl rfl) (pe_op op_cat (pv 6) (pe_lst (pa_cons (pe_errK EF.t4.ox EF.t4.iC EF.t4.tI I4 r2 (kn4 EF.t4.F) (by rfl) EF.t4.g (pk_cons (pv 3) pk_nil))
            (pa_cons (pe_errK EF.t5.ox EF.t5.iC EF.t5.tI I5 r2 (kn5 EF.t5.F) (by rfl) EF.t5.g (pk_cons (pv 3) pk_nil))
            (pa_cons (pe_errK EF.t6.ox EF.t6.iC EF.t6.tI I6 r2 (kn6 EF.t6.F) (by rfl) EF.t6.g (pk_cons (pv 3) pk_nil))
            (pa_cons (pe_errK EF.t7.ox EF.t7.iC EF.t7.tI I7 r2 (kn7 EF.t7.F) (by rfl) EF.t7.g (pk_cons (pv 3) pk_nil))
            pa_nil)))))))
        (pss_cons (ps_set (i := 6) scLaw.nd rfl (.inl rfl) (pe_op op_cat (pv 6) (pe_lst (pa_cons (pe_errK EF.t8.ox EF.t8.iC EF.t8.tI I8 r2 (kn8 EF.t8.F) (by rfl) EF.t8.g (pk_cons (pv 3) pk_nil))
            (pa_cons (pe_err0 EF.t9.ox EF.t9.iC (by rfl) EF.t9.g)
            (pa_cons (pe_errK EF.t10.ox EF.t10.iC EF.t10.tI I10 r2 (kn10 EF.t10.F) (by rfl) EF.t10.g (pk_cons (pv 3) pk_nil))
            pa_nil))))))
        (pss_one (ps_for PassesOwn.never rfl (pi_tup (pe_tup (pa_cons (pv 5) (pa_cons (pv 6) pa_nil)))) (pg_name (i := 7) scLaw.nd rfl (.inl rfl))
          (pss_cons (ps_for PassesOwn.never rfl (pi_enum (by rfl) X.enumerate (pa_cons (pv 7) pa_nil)) (pg_tup rfl (pgs_cons (pg_name (i := 8) scLaw.nd rfl (.inr rfl)) (pgs_cons (pg_name (i := 9) scLaw.nd rfl (.inl rfl)) pgs_nil)))
            (pss_cons (ps_if (PW.pt (pw_or (pt_not (pt_val (pe_callB call_isX (by rfl) X.isinstance PyProof.Rows.boot_isinstance (pa_cons (pv 9) (pa_cons (pe_glob (v := .ref EF.cB) (by rfl) EF.gB rfl) pa_nil)))))
                (pw_or1 (pt_not (pt_val (pe_callB call_isX (by rfl) X.isinstance PyProof.Rows.boot_isinstance (pa_cons (pv 9) (pa_cons (pe_bltn (v := .ty "ValueError") (by rfl) X.ValueError (by decide +kernel) rfl) pa_nil)))))))) (pss_one (ps_ret pe_bl)) pss_nil)
            (pss_cons (ps_if (pt_cmpR (op_neD hr.units) (pe_call GK r1 (by rfl) X.gl_kinds X.fl_kinds.kp X.bl_kinds .nil pass0 (pa_cons (pv 9) pa_nil))
                (pe_lc (own := [("spot", 10)]) (g := gName 10) (tt := tYes) (te := tOp rEq (tVar 10) (tVar 8)) rfl scLaw.nd (pi_range1 (by rfl) X.range (pa_cons pe_int pa_nil)) (blkOk_by (N := nmLaw) (sc := defScope sLaw) (by decide +kernel))
                  (fun _ _ _ _ _ => pg_name (i := 10) scLaw.nd rfl (Or.inl rfl)) (fun _ _ _ _ _ => pts_nil) (fun _ _ _ _ _ => pe_cmpR op_eq (pv 10) (pv 8) (nomark _))) (nomark _)) (pss_one (ps_ret pe_bl)) pss_nil)
            (pss_one (ps_if (PW.pt (pw_and (pt_cmpR op_notIn_seq (pv 8) (pe_tup (pa_cons pe_int (pa_cons pe_int pa_nil))) (by rfl))
                (pw_and1 (pt_cmpR op_ne (pe_callB (call_repQ hr hg) (by rfl) X.repr PyProof.Rows.boot_repr (pa_cons (pe_call GV r1 (by rfl) X.gl_value X.fl_value.kp X.bl_value .nil pass0 (pa_cons (pv 9) pa_nil)) pa_nil))
                  (pe_callB (call_repQ hr hg) (by rfl) X.repr PyProof.Rows.boot_repr (pa_cons (pv 3) pa_nil)) (nomark _))))) (pss_one (ps_ret pe_bl)) pss_nil)))))
          (pss_one (ps_if (pt_cmpR op_ne (pe_callB (call_repQ hr hg) (by rfl) X.repr PyProof.Rows.boot_repr (pa_cons (pe_lst (pa_cons (pe_exf (pe_ix ix_list (pv 7) pe_int (fun _ _ => rfl))) (pa_cons (pe_exf (pe_ix ix_list (pv 7) pe_int (fun _ _ => rfl))) pa_nil))) pa_nil))
              (pe_callB (call_repQ hr hg) (by rfl) X.repr PyProof.Rows.boot_repr (pa_cons (pe_lst (pa_cons (pv 3) (pa_cons (pv 4) pa_nil))) pa_nil)) (nomark _)) (pss_one (ps_ret pe_bl)) pss_nil)))))))))))))
      (pss_one (ps_ret pe_bl)), ?_⟩
    refine ⟨.ref a, rfl, a, _, rfl, .inl hS, 3, _, rfl, 1, _, rfl, _, rfl, ?_, ?_, ?_⟩
    · show -(2 ^ 62) ≤ (if (if (((ns.map V.int).length : Nat) : Int) < 3 then (((ns.map V.int).length : Nat) : Int) else 3) > 1 then (if (((ns.map V.int).length : Nat) : Int) < 3 then (((ns.map V.int).length : Nat) : Int) else 3) else 1)
      split <;> (try split) <;> omega
    · show (if (if (((ns.map V.int).length : Nat) : Int) < 3 then (((ns.map V.int).length : Nat) : Int) else 3) > 1 then (if (((ns.map V.int).length : Nat) : Int) < 3 then (((ns.map V.int).length : Nat) : Int) else 3) else 1) < 2 ^ 62
      split <;> (try split) <;> omega
    have turns : (if (if (((ns.map V.int).length : Nat) : Int) < 3 then (((ns.map V.int).length : Nat) : Int) else 3) > 1 then (if (((ns.map V.int).length : Nat) : Int) < 3 then (((ns.map V.int).length : Nat) : Int) else 3) else 1).toNat ≤ 3 := by
      split <;> (try split) <;> omega
    refine for_range (fun i σ H' => ∃ y1 y2 y3 y4 y5 y6 y7 y8 y9 y10, σ = [some (.ref a), y1, y2, y3, y4, y5, y6, y7, y8, y9, y10] ∧ Same H H') ⟨none, none, none, none, none, none, none, none, none, none, rfl, Same.refl H⟩ (fun k σ H1 hk hp => ?_) (fun σ H' hp => ?_)
    rotate_left
    · exact q H'
    obtain ⟨y1, y2, y3, y4, y5, y6, y7, y8, y9, y10, rfl, smH⟩ := hp
    have hk3 : k < 3 := Nat.lt_of_lt_of_le hk turns
    refine ⟨.ref a, rfl, _, rfl, a, ns, k, ?_, smH.seq hS, by omega, by omega, fun p o np po => ?_⟩
    · show [V.ref a, V.int (0 + (k : Int))] = _
      rw [Int.zero_add]
    have p2 : Pot (upd H1 p o) p 0 := Pot.put po
    have kp2 : Kp (fun b => b = p) (upd H1 p o) := fun b hb => by
      rw [hb]
      exact p2.ls
    have s12 : Same H1 (upd H1 p o) := sameN np
    generalize upd H1 p o = H2 at p2 kp2 s12 ⊢
    refine ⟨.ref p, rfl, p, (fun b => b = p), 9, 0, rfl, by decide, rfl, kp2, p2, by decide, fun tv d1 H3 b3 h3 k1 p3 => ?_⟩
    refine ⟨.ref p, rfl, p, (fun b => b = p), 9, _, rfl, by decide, rfl, kp2.but b3 p3, p3, by decide, fun mv d2 H4 b4 h4 k2 p4 => ⟨tv, mv, rfl, ?_⟩⟩
    have D1 : Dq K H4 tv d1 := (h3.up (But.wo (S := fun b => b = p) rfl b4)).up wo_same
    have D2 : Dq K H4 mv d2 := h4.up wo_same
    have b24 : But p H2 H4 := b3.trans b4
    have s04 : Same H H4 := fun b o' e => by
      have e1 := smH b o' e
      have nb : b ≠ p := fun z => by rw [z, np] at e1; cases e1
      exact b24 b o' nb (s12 b o' e1)
    clear h3 h4 kp2 p2 p3 p4 b3 b4 b24
    refine nx_of ?_
    refine seq_asg ?_
    refine lst_es (F := EF) (tv := tv) (mv := mv) (i := 0) (n := 6) (MEs.cons (me1 EF EF.t0 rfl rfl rfl) (.cons (me1 EF EF.t1 rfl rfl rfl) (.cons (me1 EF EF.t2 rfl rfl rfl) (.cons (me2 EF rfl rfl) (.cons (me1 EF EF.t4 rfl rfl rfl) (.cons (me1 EF EF.t5 rfl rfl rfl) .nil)))))) (by decide) fun H5 l1 v1 s5 n1 g1 e1 a1 => ?_
    refine seq_asg ?_
    refine ⟨.ref l1, rfl, ?_⟩
    refine lst_es (F := EF) (tv := tv) (mv := mv) (i := 6) (n := 5) (MEs.cons (me1 EF EF.t6 rfl rfl rfl) (.cons (me1 EF EF.t7 rfl rfl rfl) (.cons (me1 EF EF.t8 rfl rfl rfl) (.cons (me0 EF rfl) (.cons (me1 EF EF.t10 rfl rfl rfl) .nil))))) (by decide) fun H6 l2 v2 s6 n2 g2 e2 a2 => ?_
    refine ⟨l1, l2, v1, v2, rfl, rfl, s6 _ _ g1, g2, by rw [e1, e2]; decide, fun l3 n3 => ?_⟩
    have s7 := sameN (o := .lst (v1 ++ v2)) n3
    have A3 : Errl EF tv mv (upd H6 l3 (.lst (v1 ++ v2))) (v1 ++ v2) 0 := ((a1.same s6).app (by rw [e1]; exact a2)).same s7
    have g3 : (upd H6 l3 (.lst (v1 ++ v2))) l3 = some (.lst (v1 ++ v2)) := upd_same
    have s47 := (s5.trans s6).trans s7
    have e3 : (v1 ++ v2).length = 11 := by rw [List.length_append, e1, e2]
    generalize upd H6 l3 (.lst (v1 ++ v2)) = H7 at s7 A3 g3 s47 ⊢
    generalize v1 ++ v2 = w1 at A3 g3 e3
    clear a1 a2 g1 g2 s5 s6 e1 e2 s7
    refine seq_asg ?_
    refine lst_es (F := EF) (tv := tv) (mv := mv) (i := 0) (n := 4) (MEs.cons (me1K EF EF.t0 rfl rfl rfl) (.cons (me1K EF EF.t1 rfl rfl rfl) (.cons (me1K EF EF.t2 rfl rfl rfl) (.cons (me2K EF rfl rfl) .nil)))) (by decide) fun H8 m1 u1 s8 k8 g4 e4 a4 => ?_
    refine seq_asg ?_
    refine ⟨.ref m1, rfl, ?_⟩
    refine lst_es (F := EF) (tv := tv) (mv := mv) (i := 4) (n := 4) (MEs.cons (me1K EF EF.t4 rfl rfl rfl) (.cons (me1K EF EF.t5 rfl rfl rfl) (.cons (me1K EF EF.t6 rfl rfl rfl) (.cons (me1K EF EF.t7 rfl rfl rfl) .nil)))) (by decide) fun H9 m2 u2 s9 k9 g5 e5 a5 => ?_
    refine ⟨m1, m2, u1, u2, rfl, rfl, s9 _ _ g4, g5, by rw [e4, e5]; decide, fun m3 k10 => ?_⟩
    have s10 := sameN (o := .lst (u1 ++ u2)) k10
    have g6 : (upd H9 m3 (.lst (u1 ++ u2))) m3 = some (.lst (u1 ++ u2)) := upd_same
    have e6 : (u1 ++ u2).length = 8 := by rw [List.length_append, e4, e5]
    have A6 : Errl EF tv mv (upd H9 m3 (.lst (u1 ++ u2))) (u1 ++ u2) 0 := ((a4.same s9).app (by rw [e4]; exact a5)).same s10
    have s710 := (s8.trans s9).trans s10
    generalize upd H9 m3 (.lst (u1 ++ u2)) = H10 at s10 A6 g6 s710 ⊢
    refine seq_asg ?_
    refine ⟨.ref m3, rfl, ?_⟩
    refine lst_es (F := EF) (tv := tv) (mv := mv) (i := 8) (n := 3) (MEs.cons (me1K EF EF.t8 rfl rfl rfl) (.cons (me0 EF rfl) (.cons (me1K EF EF.t10 rfl rfl rfl) .nil))) (by decide) fun H11 m4 u3 s11 k11 g7 e7 a7 => ?_
    refine ⟨m3, m4, u1 ++ u2, u3, rfl, rfl, s11 _ _ g6, g7, by rw [e6, e7]; decide, fun m5 k12 => ?_⟩
    have s12' := sameN (o := .lst ((u1 ++ u2) ++ u3)) k12
    have g8 : (upd H11 m5 (.lst ((u1 ++ u2) ++ u3))) m5 = some (.lst ((u1 ++ u2) ++ u3)) := upd_same
    have e8 : ((u1 ++ u2) ++ u3).length = 11 := by rw [List.length_append, e6, e7]
    have A8 : Errl EF tv mv (upd H11 m5 (.lst ((u1 ++ u2) ++ u3))) ((u1 ++ u2) ++ u3) 0 := ((A6.same s11).app (by rw [e6]; exact a7)).same s12'
    have s712 := s710.trans (s11.trans s12')
    generalize upd H11 m5 (.lst ((u1 ++ u2) ++ u3)) = H12 at A8 g8 s712 ⊢
    generalize (u1 ++ u2) ++ u3 = w2 at A8 g8 e8
    clear a4 a5 a7 A6 g4 g5 g6 g7 s8 s9 s10 s11 e4 e5 e6 e7 s710 s12'
    have s412 := s47.trans s712
    refine ⟨_, rfl, _, rfl, (show 2 ≤ sizeLine from by decide), fun T nT => ?_⟩
    have sT := sameN (o := .tup [.ref l3, .ref m5]) nT
    have hT : (upd H12 T (.tup [.ref l3, .ref m5])) T = some (.tup [.ref l3, .ref m5]) := upd_same
    have lots : ∀ u ∈ [V.ref l3, .ref m5], ∃ L ws, u = .ref L ∧ (upd H12 T (.tup [.ref l3, .ref m5])) L = some (.lst ws) ∧ ws.length = 11 ∧ Errl EF tv mv (upd H12 T (.tup [.ref l3, .ref m5])) ws 0 := by
      intro u hu
      simp only [List.mem_cons, List.not_mem_nil, or_false] at hu
      rcases hu with rfl | rfl
      · exact ⟨l3, w1, rfl, sT _ _ (s712 _ _ g3), e3, (A3.same s712).same sT⟩
      · exact ⟨m5, w2, rfl, sT _ _ g8, e8, A8.same sT⟩
    have s4T := s412.trans sT
    have D1' := D1.up s4T
    have D2' := D2.up s4T
    have s0T := s04.trans s4T
    generalize upd H12 T (.tup [.ref l3, .ref m5]) = H13 at hT lots D1' D2' s0T ⊢
    clear s4T s412 s712 s47 A3 A8 g3 g8 sT D1 D2
    have K1 : sm 0 13 60 d1 := k1
    have K2 : sm 0 13 60 d2 := k2
    refine ⟨T, rfl, ⟨_, .inl (.inl hT)⟩, ?_⟩
    refine for_tup (xs := [V.ref l3, .ref m5]) (fun i σ H' => ∃ yk yp ys yo y7 y8 y9 y10, σ = [some (.ref a), yk, yp, some tv, some mv, ys, yo, y7, y8, y9, y10] ∧ Same H13 H')
      ⟨_, _, _, _, _, _, _, _, rfl, Same.refl _⟩ (fun i σ H' _ hp' => ?_) (fun i u σ H14 hu hp' => ?_) (fun σ H14 hp' => ?_)
    · obtain ⟨_, _, _, _, _, _, _, _, _, s⟩ := hp'
      exact .inl (.inl (s _ _ hT))
    rotate_left
    · obtain ⟨_, _, _, _, _, _, _, _, rfl, s⟩ := hp'
      exact ⟨_, _, _, _, _, _, _, _, _, _, rfl, s0T.trans s⟩
    obtain ⟨yk, yp, ys, yo, y7, y8, y9, y10, rfl, s14⟩ := hp'
    obtain ⟨L, ws, rfl, hL, lws, es⟩ := lots u (List.mem_of_getElem? hu)
    have hL14 := s14 _ _ hL
    refine ⟨.ref L, rfl, L, ws, rfl, .inl (.inl hL14), ?_⟩
    refine for_enumL (xs := ws) (fun i σ H' => ∃ y8 y9 y10, σ = [some (.ref a), yk, yp, some tv, some mv, ys, yo, some (.ref L), y8, y9, y10] ∧ Same H14 H') ⟨_, _, _, rfl, Same.refl _⟩ (fun i σ H' hp => ?_) (fun j x T2 σ H15 hx hp nT2 => ?_) (fun i σ H15 hp _ => ?_)
    · obtain ⟨_, _, _, _, s⟩ := hp
      exact .inl (.inl (s _ _ hL14))
    · obtain ⟨y8', y9', y10', rfl, s15⟩ := hp
      obtain ⟨e, rfl, he⟩ := es j x hx
      rw [Nat.zero_add] at he
      have hj : j < 11 := by rw [← lws]; exact (List.getElem?_eq_some_iff.mp hx).1
      have s16 := s15.trans (sameN (o := .tup [.int (j : Nat), .ref e]) nT2)
      have hT2 : (upd H15 T2 (.tup [.int (j : Nat), .ref e])) T2 = some (.tup [.int (j : Nat), .ref e]) := upd_same
      generalize upd H15 T2 (.tup [.int (j : Nat), .ref e]) = H16 at s16 hT2 ⊢
      refine ⟨T2, _, rfl, .inl (.inl hT2), rfl, _, _, rfl, _, [], rfl, rfl, ?_⟩
      have E16 := (he.same s14).same s16
      have er := EF.er j hj
      refine seq_if (fun b H' => b = false ∧ H' = H16) (fun R hR => ?_) (fun H' h' => nomatch h'.1) (fun H' h' => ?_)
      · refine ⟨.ref e, rfl, e, EF.C j, _, _, true, rfl, E16.1, er, .own _, EF.kB j hj, _, rfl, iteF ?_⟩
        exact ⟨.ref e, rfl, e, EF.C j, .ty "ValueError", .type "ValueError", true, rfl, E16.1, er, .ty _, EF.kV j hj, _, rfl, hR _ _ ⟨rfl, rfl⟩⟩
      obtain ⟨_, rfl⟩ := h'
      refine seq_if (fun b H'' => b = false ∧ Same H' H'') (fun R hR => ?_) (fun H' h' => nomatch h'.1) (fun H17 h17 => ?_)
      · refine ⟨.ref e, rfl, e, j, rfl, hj, E16.1, fun H17 b1 s17 hb1 => ?_⟩
        refine ⟨11, rfl, by decide, by decide, fun D nD => ?_⟩
        refine lc_range (fun n H'' => H'' D = some (.lst ((List.range n).map fun i => V.bl (decide (j = i)))) ∧ Same H17 H'') ⟨upd_same, sameN nD⟩ (fun n H'' hn hq => ?_) (fun H18 hq => ?_)
        · obtain ⟨gD, s18⟩ := hq
          have hn' : n < 11 := hn
          refine ⟨rfl, _, rfl, _, rfl, rfl, ?_⟩
          rw [spot_eq]
          refine ⟨_, gD, ?_, ?_, sameW s18 nD⟩
          · rw [List.length_map, List.length_range]
            exact line5 (by omega)
          · rw [upd_same, List.range_succ, List.map_append]
            rfl
        · obtain ⟨gD, s18⟩ := hq
          have sh := kinds_sh j hj
          have ek : (List.range (11 : Int).toNat).map (fun i => V.bl (decide (j = i))) = (kinds j).map V.bl := by
            unfold kinds
            rw [List.map_map]
            rfl
          rw [ek] at gD
          refine ⟨_, _, .lst (.inl (.inl (s18 _ _ hb1))) (dpb _), .lst (.inl (.inl gD)) (dpb _), sh, sh, _, rfl, ?_⟩
          have sh' := sh
          unfold SeqAt.shaped at sh'
          rw [Bool.and_eq_true] at sh'
          rw [SeqAt.eqv_refl _ sh'.1]
          exact hR _ _ ⟨rfl, s17.trans s18⟩
      obtain ⟨_, s17⟩ := h17
      refine ifs_any (fun b H'' => b = false ∧ Same H17 H'') (fun b H'' hb => ?_) (fun R hR => ?_)
      · obtain ⟨rfl, s18⟩ := hb
        exact iteF ⟨_, _, _, rfl, (s16.trans s17).trans s18⟩
      refine ⟨_, rfl, (show 2 ≤ sizeLine from by decide), fun t nt => ⟨t, [.int 3, .int 9], rfl, .inr (.inl (.inl upd_same)), rfl, rfl, _, rfl, ?_⟩⟩
      have st := sameN (o := .tup [.int 3, .int 9]) nt
      show if (!inV (.int (j : Nat)) [.int 3, .int 9]) = true then _ else _
      cases hb : (!inV (.int (j : Nat)) [.int 3, .int 9]) with
      | false => exact iteF (hR _ _ ⟨rfl, st⟩)
      | true =>
        have j3 : j ≠ 3 := fun z => by subst z; cases hb
        have j9 : j ≠ 9 := fun z => by subst z; cases hb
        have ED := (E16.2 j9).same (s17.trans st)
        have Dt := D1'.up (s14.trans (s16.trans (s17.trans st)))
        refine iteT ⟨.ref e, rfl, e, tv, mv, j, rfl, hj, j3, j9, ED, fun H19 s19 => ?_⟩
        dsimp only [tNil]
        refine (rep_any (Same.refl H19) (Dt.up s19) K1 (by decide) (by decide) (by decide) ?_ : rRepQ K [tv] _ _)
        show tCB _ (tCons (tVar 3) tNil) _ _ _
        refine cb1_var tv rfl (rep_any (Same.refl H19) (Dt.up s19) K1 (by decide) (by decide) (by decide) ?_)
        exact ⟨rfl, false, by simp, hR _ _ ⟨rfl, st.trans s19⟩⟩
    · obtain ⟨y8', y9', y10', rfl, s15⟩ := hp
      obtain ⟨x3, hx3⟩ : ∃ x, ws[3]? = some x := ⟨_, List.getElem?_eq_getElem (by rw [lws]; decide)⟩
      obtain ⟨e, rfl, he⟩ := es 3 x3 hx3
      have E3 := ((he.2 (by decide)).same s14).same s15
      have s415 := s14.trans s15
      refine nx_of ?_
      refine ifs_any (fun b H'' => b = false ∧ Same H15 H'') (fun b H'' hb => ?_) (fun R hR => ?_)
      · obtain ⟨rfl, s18⟩ := hb
        exact iteF ⟨_, _, _, _, _, _, _, _, rfl, s415.trans s18⟩
      refine ⟨.ref L, rfl, L, ws, 3, .ref e, rfl, rfl, .inl (.inl (s15 _ _ hL14)), atI_nat (j := 3) hx3, e, EF.c3, _, tv, rfl, E3, EF.t3.er, EF.t3.no, rfl, ?_⟩
      refine ⟨.ref L, rfl, L, ws, 3, .ref e, rfl, rfl, .inl (.inl (s15 _ _ hL14)), atI_nat (j := 3) hx3, e, EF.c3, _, mv, rfl, E3, EF.t3.er, EF.t3.no2, rfl, (show 2 ≤ sizeLine from by decide), fun R1 nR1 => ?_⟩
      have sa := s415.trans (sameN (o := .lst [tv, mv]) nR1)
      have sl := sm_l2 K1 K2
      dsimp only [tNil]
      refine (rep_any (d := .list [d1, d2]) (Same.refl _) (.lst (.inl (.inl upd_same)) (.cons (D1'.up sa) (.cons (D2'.up sa) .nil))) sl (by decide) (by decide) (by decide) ?_ : rRepQ K [.ref R1] _ _)
      refine ⟨_, rfl, _, rfl, (show 2 ≤ sizeLine from by decide), fun R2 nR2 => ?_⟩
      have sb := sa.trans (sameN (o := .lst [tv, mv]) nR2)
      dsimp only [tNil]
      refine (rep_any (d := .list [d1, d2]) (Same.refl _) (.lst (.inl (.inl upd_same)) (.cons (D1'.up sb) (.cons (D2'.up sb) .nil))) sl (by decide) (by decide) (by decide) ?_ : rRepQ K [.ref R2] _ _)
      exact ⟨rfl, false, by simp, hR _ _ ⟨rfl, (sameN nR1).trans (sameN nR2)⟩⟩
end
end C00

set_option Elab.async false
set_option linter.all false
set_option maxRecDepth 100000
namespace C00
open PySem PySem.Spec PyProof.Rows L2 Loc RZ
set_option maxHeartbeats 0 in
theorem all_mk {l : PySem.W.OpenLaw} {w : World} {K : PySem.W.Frag} {h : Heap} {mg : Str → Option Value} {fa : Addr} (X : K.In h) (G : h.Ns mainGlobals mg) (hfa : mg "law" = some (.ref fa))
    {cB : Addr} (gcB : PySem.W.nsIn K mainGlobals "BlockError" = some (some (.ref cB)))
    {cT : Addr} (gcT : PySem.W.nsIn K mainGlobals "BadText" = some (some (.ref cT)))
    {cL : Addr} (gcL : PySem.W.nsIn K mainGlobals "TooLong" = some (some (.ref cL)))
    {cI : Addr} (gcI : PySem.W.nsIn K mainGlobals "NoIndex" = some (some (.ref cI)))
    {cR : Addr} (gcR : PySem.W.nsIn K mainGlobals "NoRange" = some (some (.ref cR)))
    {cN : Addr} (gcN : PySem.W.nsIn K mainGlobals "BadName" = some (some (.ref cN)))
    {cU : Addr} (gcU : PySem.W.nsIn K mainGlobals "BadRuns" = some (some (.ref cU)))
    {cM : Addr} (gcM : PySem.W.nsIn K mainGlobals "BadTimes" = some (some (.ref cM)))
    {cO : Addr} (gcO : PySem.W.nsIn K mainGlobals "NoName" = some (some (.ref cO)))
    {cY : Addr} (gcY : PySem.W.nsIn K mainGlobals "TooMany" = some (some (.ref cY)))
    {cW : Addr} (gcW : PySem.W.nsIn K mainGlobals "NothingToUndo" = some (some (.ref cW)))
    {cE : Addr} (gcE : PySem.W.nsIn K mainGlobals "BadLine" = some (some (.ref cE)))
    {nmT qT : Str} {NT : Addr} {bsT : List Value} {snT : List Str} {subT : List Value} {abT : Bool} {colT : Option Bool} {ddT : Option Addr} {m0T m1T m2T m3T m5T : Option Value}
    (xT : K.lookup cT = some (excClassObj nmT qT cT NT bsT [.ref cB, .type "ValueError", .type "Exception", .type "BaseException", .type "object"] true snT subT abT colT ddT m0T m1T m2T m3T m5T "ValueError.__new__"))
    (saT : PySem.W.findIn K (.ref cT) "__setattr__" = some (some (.builtin "object.__setattr__"))) (gaT : PySem.W.findIn K (.ref cT) "__getattribute__" = some (some (.builtin "BaseException.__getattribute__"))) (ggT : PySem.W.findIn K (.ref cT) "__getattr__" = some none)
    (nbT0 : PySem.W.findIn K (.ref cT) "text" = some none)
    (clT : PySem.W.findIn K (.ref cT) "__class__" = some (some (.builtin "object.__class__"))) (mrT : PySem.W.mroIn K cT (.type "object") = some true) (kCT : PySem.W.keepIn K (.ref cT) = true) (eCT : PySem.W.subIn K (.ref cT) (.type "BaseException") = some true) (tT : PySem.W.typeIn K (.ref cT) = some (.type "type")) (hT : PySem.W.hasDictIn K cT = true)
    {iT : Addr} {odT anT : Option Addr} {slT : Array (Option Value)} {ocT kVT dcT pmT cdT ctT : Value}
    (inT : PySem.W.findIn K (.ref cT) "__init__" = some (some (.ref iT))) (tiT : PySem.W.typeIn K (.ref iT) = some (.type "function"))
    (liT : K.lookup iT = some ⟨ocT, odT, .func (PySem.W.fnOf "__init__" "BadText.__init__" (defArgs sI0) (defBody sI0) (defScope sI0) .none kVT dcT pmT anT cdT ctT), slT⟩) (ciT : PySem.W.codeIn K cdT "BadText.__init__" = true) (kiT : PySem.W.keepIn K (.ref iT) = true)
    {nmL qL : Str} {NL : Addr} {bsL : List Value} {snL : List Str} {subL : List Value} {abL : Bool} {colL : Option Bool} {ddL : Option Addr} {m0L m1L m2L m3L m5L : Option Value}
    (xL : K.lookup cL = some (excClassObj nmL qL cL NL bsL [.ref cB, .type "ValueError", .type "Exception", .type "BaseException", .type "object"] true snL subL abL colL ddL m0L m1L m2L m3L m5L "ValueError.__new__"))
    (saL : PySem.W.findIn K (.ref cL) "__setattr__" = some (some (.builtin "object.__setattr__"))) (gaL : PySem.W.findIn K (.ref cL) "__getattribute__" = some (some (.builtin "BaseException.__getattribute__"))) (ggL : PySem.W.findIn K (.ref cL) "__getattr__" = some none)
    (nbL0 : PySem.W.findIn K (.ref cL) "limit" = some none)
    (clL : PySem.W.findIn K (.ref cL) "__class__" = some (some (.builtin "object.__class__"))) (mrL : PySem.W.mroIn K cL (.type "object") = some true) (kCL : PySem.W.keepIn K (.ref cL) = true) (eCL : PySem.W.subIn K (.ref cL) (.type "BaseException") = some true) (tL : PySem.W.typeIn K (.ref cL) = some (.type "type")) (hL : PySem.W.hasDictIn K cL = true)
    {iL : Addr} {odL anL : Option Addr} {slL : Array (Option Value)} {ocL kVL dcL pmL cdL ctL : Value}
    (inL : PySem.W.findIn K (.ref cL) "__init__" = some (some (.ref iL))) (tiL : PySem.W.typeIn K (.ref iL) = some (.type "function"))
    (liL : K.lookup iL = some ⟨ocL, odL, .func (PySem.W.fnOf "__init__" "TooLong.__init__" (defArgs sI1) (defBody sI1) (defScope sI1) .none kVL dcL pmL anL cdL ctL), slL⟩) (ciL : PySem.W.codeIn K cdL "TooLong.__init__" = true) (kiL : PySem.W.keepIn K (.ref iL) = true)
    {nmI qI : Str} {NI : Addr} {bsI : List Value} {snI : List Str} {subI : List Value} {abI : Bool} {colI : Option Bool} {ddI : Option Addr} {m0I m1I m2I m3I m5I : Option Value}
    (xI : K.lookup cI = some (excClassObj nmI qI cI NI bsI [.ref cB, .type "ValueError", .type "Exception", .type "BaseException", .type "object"] true snI subI abI colI ddI m0I m1I m2I m3I m5I "ValueError.__new__"))
    (saI : PySem.W.findIn K (.ref cI) "__setattr__" = some (some (.builtin "object.__setattr__"))) (gaI : PySem.W.findIn K (.ref cI) "__getattribute__" = some (some (.builtin "BaseException.__getattribute__"))) (ggI : PySem.W.findIn K (.ref cI) "__getattr__" = some none)
    (nbI0 : PySem.W.findIn K (.ref cI) "index" = some none)
    (clI : PySem.W.findIn K (.ref cI) "__class__" = some (some (.builtin "object.__class__"))) (mrI : PySem.W.mroIn K cI (.type "object") = some true) (kCI : PySem.W.keepIn K (.ref cI) = true) (eCI : PySem.W.subIn K (.ref cI) (.type "BaseException") = some true) (tI : PySem.W.typeIn K (.ref cI) = some (.type "type")) (hI : PySem.W.hasDictIn K cI = true)
    {iI : Addr} {odI anI : Option Addr} {slI : Array (Option Value)} {ocI kVI dcI pmI cdI ctI : Value}
    (inI : PySem.W.findIn K (.ref cI) "__init__" = some (some (.ref iI))) (tiI : PySem.W.typeIn K (.ref iI) = some (.type "function"))
    (liI : K.lookup iI = some ⟨ocI, odI, .func (PySem.W.fnOf "__init__" "NoIndex.__init__" (defArgs sI2) (defBody sI2) (defScope sI2) .none kVI dcI pmI anI cdI ctI), slI⟩) (ciI : PySem.W.codeIn K cdI "NoIndex.__init__" = true) (kiI : PySem.W.keepIn K (.ref iI) = true)
    {nmR qR : Str} {NR : Addr} {bsR : List Value} {snR : List Str} {subR : List Value} {abR : Bool} {colR : Option Bool} {ddR : Option Addr} {m0R m1R m2R m3R m5R : Option Value}
    (xR : K.lookup cR = some (excClassObj nmR qR cR NR bsR [.ref cB, .type "ValueError", .type "Exception", .type "BaseException", .type "object"] true snR subR abR colR ddR m0R m1R m2R m3R m5R "ValueError.__new__"))
    (saR : PySem.W.findIn K (.ref cR) "__setattr__" = some (some (.builtin "object.__setattr__"))) (gaR : PySem.W.findIn K (.ref cR) "__getattribute__" = some (some (.builtin "BaseException.__getattribute__"))) (ggR : PySem.W.findIn K (.ref cR) "__getattr__" = some none)
    (nbR0 : PySem.W.findIn K (.ref cR) "start" = some none)
    (nbR1 : PySem.W.findIn K (.ref cR) "stop" = some none)
    (clR : PySem.W.findIn K (.ref cR) "__class__" = some (some (.builtin "object.__class__"))) (mrR : PySem.W.mroIn K cR (.type "object") = some true) (kCR : PySem.W.keepIn K (.ref cR) = true) (eCR : PySem.W.subIn K (.ref cR) (.type "BaseException") = some true) (tR : PySem.W.typeIn K (.ref cR) = some (.type "type")) (hR : PySem.W.hasDictIn K cR = true)
    {iR : Addr} {odR anR : Option Addr} {slR : Array (Option Value)} {ocR kVR dcR pmR cdR ctR : Value}
    (inR : PySem.W.findIn K (.ref cR) "__init__" = some (some (.ref iR))) (tiR : PySem.W.typeIn K (.ref iR) = some (.type "function"))
    (liR : K.lookup iR = some ⟨ocR, odR, .func (PySem.W.fnOf "__init__" "NoRange.__init__" (defArgs sI3) (defBody sI3) (defScope sI3) .none kVR dcR pmR anR cdR ctR), slR⟩) (ciR : PySem.W.codeIn K cdR "NoRange.__init__" = true) (kiR : PySem.W.keepIn K (.ref iR) = true)
    {nmN qN : Str} {NN : Addr} {bsN : List Value} {snN : List Str} {subN : List Value} {abN : Bool} {colN : Option Bool} {ddN : Option Addr} {m0N m1N m2N m3N m5N : Option Value}
    (xN : K.lookup cN = some (excClassObj nmN qN cN NN bsN [.ref cB, .type "ValueError", .type "Exception", .type "BaseException", .type "object"] true snN subN abN colN ddN m0N m1N m2N m3N m5N "ValueError.__new__"))
    (saN : PySem.W.findIn K (.ref cN) "__setattr__" = some (some (.builtin "object.__setattr__"))) (gaN : PySem.W.findIn K (.ref cN) "__getattribute__" = some (some (.builtin "BaseException.__getattribute__"))) (ggN : PySem.W.findIn K (.ref cN) "__getattr__" = some none)
    (nbN0 : PySem.W.findIn K (.ref cN) "name" = some none)
    (clN : PySem.W.findIn K (.ref cN) "__class__" = some (some (.builtin "object.__class__"))) (mrN : PySem.W.mroIn K cN (.type "object") = some true) (kCN : PySem.W.keepIn K (.ref cN) = true) (eCN : PySem.W.subIn K (.ref cN) (.type "BaseException") = some true) (tN : PySem.W.typeIn K (.ref cN) = some (.type "type")) (hN : PySem.W.hasDictIn K cN = true)
    {iN : Addr} {odN anN : Option Addr} {slN : Array (Option Value)} {ocN kVN dcN pmN cdN ctN : Value}
    (inN : PySem.W.findIn K (.ref cN) "__init__" = some (some (.ref iN))) (tiN : PySem.W.typeIn K (.ref iN) = some (.type "function"))
    (liN : K.lookup iN = some ⟨ocN, odN, .func (PySem.W.fnOf "__init__" "BadName.__init__" (defArgs sI4) (defBody sI4) (defScope sI4) .none kVN dcN pmN anN cdN ctN), slN⟩) (ciN : PySem.W.codeIn K cdN "BadName.__init__" = true) (kiN : PySem.W.keepIn K (.ref iN) = true)
    {nmU qU : Str} {NU : Addr} {bsU : List Value} {snU : List Str} {subU : List Value} {abU : Bool} {colU : Option Bool} {ddU : Option Addr} {m0U m1U m2U m3U m5U : Option Value}
    (xU : K.lookup cU = some (excClassObj nmU qU cU NU bsU [.ref cB, .type "ValueError", .type "Exception", .type "BaseException", .type "object"] true snU subU abU colU ddU m0U m1U m2U m3U m5U "ValueError.__new__"))
    (saU : PySem.W.findIn K (.ref cU) "__setattr__" = some (some (.builtin "object.__setattr__"))) (gaU : PySem.W.findIn K (.ref cU) "__getattribute__" = some (some (.builtin "BaseException.__getattribute__"))) (ggU : PySem.W.findIn K (.ref cU) "__getattr__" = some none)
    (nbU0 : PySem.W.findIn K (.ref cU) "runs" = some none)
    (clU : PySem.W.findIn K (.ref cU) "__class__" = some (some (.builtin "object.__class__"))) (mrU : PySem.W.mroIn K cU (.type "object") = some true) (kCU : PySem.W.keepIn K (.ref cU) = true) (eCU : PySem.W.subIn K (.ref cU) (.type "BaseException") = some true) (tU : PySem.W.typeIn K (.ref cU) = some (.type "type")) (hU : PySem.W.hasDictIn K cU = true)
    {iU : Addr} {odU anU : Option Addr} {slU : Array (Option Value)} {ocU kVU dcU pmU cdU ctU : Value}
    (inU : PySem.W.findIn K (.ref cU) "__init__" = some (some (.ref iU))) (tiU : PySem.W.typeIn K (.ref iU) = some (.type "function"))
    (liU : K.lookup iU = some ⟨ocU, odU, .func (PySem.W.fnOf "__init__" "BadRuns.__init__" (defArgs sI5) (defBody sI5) (defScope sI5) .none kVU dcU pmU anU cdU ctU), slU⟩) (ciU : PySem.W.codeIn K cdU "BadRuns.__init__" = true) (kiU : PySem.W.keepIn K (.ref iU) = true)
    {nmM qM : Str} {NM : Addr} {bsM : List Value} {snM : List Str} {subM : List Value} {abM : Bool} {colM : Option Bool} {ddM : Option Addr} {m0M m1M m2M m3M m5M : Option Value}
    (xM : K.lookup cM = some (excClassObj nmM qM cM NM bsM [.ref cB, .type "ValueError", .type "Exception", .type "BaseException", .type "object"] true snM subM abM colM ddM m0M m1M m2M m3M m5M "ValueError.__new__"))
    (saM : PySem.W.findIn K (.ref cM) "__setattr__" = some (some (.builtin "object.__setattr__"))) (gaM : PySem.W.findIn K (.ref cM) "__getattribute__" = some (some (.builtin "BaseException.__getattribute__"))) (ggM : PySem.W.findIn K (.ref cM) "__getattr__" = some none)
    (nbM0 : PySem.W.findIn K (.ref cM) "times" = some none)
    (clM : PySem.W.findIn K (.ref cM) "__class__" = some (some (.builtin "object.__class__"))) (mrM : PySem.W.mroIn K cM (.type "object") = some true) (kCM : PySem.W.keepIn K (.ref cM) = true) (eCM : PySem.W.subIn K (.ref cM) (.type "BaseException") = some true) (tM : PySem.W.typeIn K (.ref cM) = some (.type "type")) (hM : PySem.W.hasDictIn K cM = true)
    {iM : Addr} {odM anM : Option Addr} {slM : Array (Option Value)} {ocM kVM dcM pmM cdM ctM : Value}
    (inM : PySem.W.findIn K (.ref cM) "__init__" = some (some (.ref iM))) (tiM : PySem.W.typeIn K (.ref iM) = some (.type "function"))
    (liM : K.lookup iM = some ⟨ocM, odM, .func (PySem.W.fnOf "__init__" "BadTimes.__init__" (defArgs sI6) (defBody sI6) (defScope sI6) .none kVM dcM pmM anM cdM ctM), slM⟩) (ciM : PySem.W.codeIn K cdM "BadTimes.__init__" = true) (kiM : PySem.W.keepIn K (.ref iM) = true)
    {nmO qO : Str} {NO : Addr} {bsO : List Value} {snO : List Str} {subO : List Value} {abO : Bool} {colO : Option Bool} {ddO : Option Addr} {m0O m1O m2O m3O m5O : Option Value}
    (xO : K.lookup cO = some (excClassObj nmO qO cO NO bsO [.ref cB, .type "ValueError", .type "Exception", .type "BaseException", .type "object"] true snO subO abO colO ddO m0O m1O m2O m3O m5O "ValueError.__new__"))
    (saO : PySem.W.findIn K (.ref cO) "__setattr__" = some (some (.builtin "object.__setattr__"))) (gaO : PySem.W.findIn K (.ref cO) "__getattribute__" = some (some (.builtin "BaseException.__getattribute__"))) (ggO : PySem.W.findIn K (.ref cO) "__getattr__" = some none)
    (nbO0 : PySem.W.findIn K (.ref cO) "name" = some none)
    (clO : PySem.W.findIn K (.ref cO) "__class__" = some (some (.builtin "object.__class__"))) (mrO : PySem.W.mroIn K cO (.type "object") = some true) (kCO : PySem.W.keepIn K (.ref cO) = true) (eCO : PySem.W.subIn K (.ref cO) (.type "BaseException") = some true) (tO : PySem.W.typeIn K (.ref cO) = some (.type "type")) (hO : PySem.W.hasDictIn K cO = true)
    {iO : Addr} {odO anO : Option Addr} {slO : Array (Option Value)} {ocO kVO dcO pmO cdO ctO : Value}
    (inO : PySem.W.findIn K (.ref cO) "__init__" = some (some (.ref iO))) (tiO : PySem.W.typeIn K (.ref iO) = some (.type "function"))
    (liO : K.lookup iO = some ⟨ocO, odO, .func (PySem.W.fnOf "__init__" "NoName.__init__" (defArgs sI7) (defBody sI7) (defScope sI7) .none kVO dcO pmO anO cdO ctO), slO⟩) (ciO : PySem.W.codeIn K cdO "NoName.__init__" = true) (kiO : PySem.W.keepIn K (.ref iO) = true)
    {nmY qY : Str} {NY : Addr} {bsY : List Value} {snY : List Str} {subY : List Value} {abY : Bool} {colY : Option Bool} {ddY : Option Addr} {m0Y m1Y m2Y m3Y m5Y : Option Value}
    (xY : K.lookup cY = some (excClassObj nmY qY cY NY bsY [.ref cB, .type "ValueError", .type "Exception", .type "BaseException", .type "object"] true snY subY abY colY ddY m0Y m1Y m2Y m3Y m5Y "ValueError.__new__"))
    (saY : PySem.W.findIn K (.ref cY) "__setattr__" = some (some (.builtin "object.__setattr__"))) (gaY : PySem.W.findIn K (.ref cY) "__getattribute__" = some (some (.builtin "BaseException.__getattribute__"))) (ggY : PySem.W.findIn K (.ref cY) "__getattr__" = some none)
    (nbY0 : PySem.W.findIn K (.ref cY) "limit" = some none)
    (clY : PySem.W.findIn K (.ref cY) "__class__" = some (some (.builtin "object.__class__"))) (mrY : PySem.W.mroIn K cY (.type "object") = some true) (kCY : PySem.W.keepIn K (.ref cY) = true) (eCY : PySem.W.subIn K (.ref cY) (.type "BaseException") = some true) (tY : PySem.W.typeIn K (.ref cY) = some (.type "type")) (hY : PySem.W.hasDictIn K cY = true)
    {iY : Addr} {odY anY : Option Addr} {slY : Array (Option Value)} {ocY kVY dcY pmY cdY ctY : Value}
    (inY : PySem.W.findIn K (.ref cY) "__init__" = some (some (.ref iY))) (tiY : PySem.W.typeIn K (.ref iY) = some (.type "function"))
    (liY : K.lookup iY = some ⟨ocY, odY, .func (PySem.W.fnOf "__init__" "TooMany.__init__" (defArgs sI8) (defBody sI8) (defScope sI8) .none kVY dcY pmY anY cdY ctY), slY⟩) (ciY : PySem.W.codeIn K cdY "TooMany.__init__" = true) (kiY : PySem.W.keepIn K (.ref iY) = true)
    {nmW qW : Str} {NW : Addr} {bsW : List Value} {snW : List Str} {subW : List Value} {abW : Bool} {colW : Option Bool} {ddW : Option Addr} {m0W m1W m2W m3W m5W : Option Value}
    (xW : K.lookup cW = some (excClassObj nmW qW cW NW bsW [.ref cB, .type "ValueError", .type "Exception", .type "BaseException", .type "object"] true snW subW abW colW ddW m0W m1W m2W m3W m5W "ValueError.__new__"))
    (saW : PySem.W.findIn K (.ref cW) "__setattr__" = some (some (.builtin "object.__setattr__"))) (gaW : PySem.W.findIn K (.ref cW) "__getattribute__" = some (some (.builtin "BaseException.__getattribute__"))) (ggW : PySem.W.findIn K (.ref cW) "__getattr__" = some none)
    (clW : PySem.W.findIn K (.ref cW) "__class__" = some (some (.builtin "object.__class__"))) (mrW : PySem.W.mroIn K cW (.type "object") = some true) (kCW : PySem.W.keepIn K (.ref cW) = true) (eCW : PySem.W.subIn K (.ref cW) (.type "BaseException") = some true) (tW : PySem.W.typeIn K (.ref cW) = some (.type "type")) (hW : PySem.W.hasDictIn K cW = true)
    (inW : PySem.W.findIn K (.ref cW) "__init__" = some (some (.builtin "ValueError.__init__")))
    {nmE qE : Str} {NE : Addr} {bsE : List Value} {snE : List Str} {subE : List Value} {abE : Bool} {colE : Option Bool} {ddE : Option Addr} {m0E m1E m2E m3E m5E : Option Value}
    (xE : K.lookup cE = some (excClassObj nmE qE cE NE bsE [.ref cB, .type "ValueError", .type "Exception", .type "BaseException", .type "object"] true snE subE abE colE ddE m0E m1E m2E m3E m5E "ValueError.__new__"))
    (saE : PySem.W.findIn K (.ref cE) "__setattr__" = some (some (.builtin "object.__setattr__"))) (gaE : PySem.W.findIn K (.ref cE) "__getattribute__" = some (some (.builtin "BaseException.__getattribute__"))) (ggE : PySem.W.findIn K (.ref cE) "__getattr__" = some none)
    (nbE0 : PySem.W.findIn K (.ref cE) "line" = some none)
    (clE : PySem.W.findIn K (.ref cE) "__class__" = some (some (.builtin "object.__class__"))) (mrE : PySem.W.mroIn K cE (.type "object") = some true) (kCE : PySem.W.keepIn K (.ref cE) = true) (eCE : PySem.W.subIn K (.ref cE) (.type "BaseException") = some true) (tE : PySem.W.typeIn K (.ref cE) = some (.type "type")) (hE : PySem.W.hasDictIn K cE = true)
    {iE : Addr} {odE anE : Option Addr} {slE : Array (Option Value)} {ocE kVE dcE pmE cdE ctE : Value}
    (inE : PySem.W.findIn K (.ref cE) "__init__" = some (some (.ref iE))) (tiE : PySem.W.typeIn K (.ref iE) = some (.type "function"))
    (liE : K.lookup iE = some ⟨ocE, odE, .func (PySem.W.fnOf "__init__" "BadLine.__init__" (defArgs sI10) (defBody sI10) (defScope sI10) .none kVE dcE pmE anE cdE ctE), slE⟩) (ciE : PySem.W.codeIn K cdE "BadLine.__init__" = true) (kiE : PySem.W.keepIn K (.ref iE) = true)
    (sp0 : PySem.W.specialIn K (.builtin "object.__class__") "__get__" = some (some (.builtin "getset_descriptor.__get__"))) (tk0 : PySem.W.takesIn K (.builtin "object.__class__") = some true)
    (hB : PySem.W.hasDictIn K cB = true) (tB : PySem.W.typeIn K (.ref cB) = some (.type "type"))
    (sB : PySem.W.subIn K (.ref cB) (.type "BaseException") = some true)
    (nTB : (cT == cB) = false) (sTB : PySem.W.subIn K (.ref cT) (.ref cB) = some true)
    (nLB : (cL == cB) = false) (sLB : PySem.W.subIn K (.ref cL) (.ref cB) = some true)
    (nIB : (cI == cB) = false) (sIB : PySem.W.subIn K (.ref cI) (.ref cB) = some true)
    (nRB : (cR == cB) = false) (sRB : PySem.W.subIn K (.ref cR) (.ref cB) = some true)
    (nNB : (cN == cB) = false) (sNB : PySem.W.subIn K (.ref cN) (.ref cB) = some true)
    (nUB : (cU == cB) = false) (sUB : PySem.W.subIn K (.ref cU) (.ref cB) = some true)
    (nMB : (cM == cB) = false) (sMB : PySem.W.subIn K (.ref cM) (.ref cB) = some true)
    (nOB : (cO == cB) = false) (sOB : PySem.W.subIn K (.ref cO) (.ref cB) = some true)
    (nYB : (cY == cB) = false) (sYB : PySem.W.subIn K (.ref cY) (.ref cB) = some true)
    (nWB : (cW == cB) = false) (sWB : PySem.W.subIn K (.ref cW) (.ref cB) = some true)
    (nEB : (cE == cB) = false) (sEB : PySem.W.subIn K (.ref cE) (.ref cB) = some true)
    (nTL : (cT == cL) = false) (sTL : PySem.W.subIn K (.ref cT) (.ref cL) = some false)
    (nTI : (cT == cI) = false) (sTI : PySem.W.subIn K (.ref cT) (.ref cI) = some false)
    (nTR : (cT == cR) = false) (sTR : PySem.W.subIn K (.ref cT) (.ref cR) = some false)
    (nTN : (cT == cN) = false) (sTN : PySem.W.subIn K (.ref cT) (.ref cN) = some false)
    (nTU : (cT == cU) = false) (sTU : PySem.W.subIn K (.ref cT) (.ref cU) = some false)
    (nTM : (cT == cM) = false) (sTM : PySem.W.subIn K (.ref cT) (.ref cM) = some false)
    (nTO : (cT == cO) = false) (sTO : PySem.W.subIn K (.ref cT) (.ref cO) = some false)
    (nTY : (cT == cY) = false) (sTY : PySem.W.subIn K (.ref cT) (.ref cY) = some false)
    (nTW : (cT == cW) = false) (sTW : PySem.W.subIn K (.ref cT) (.ref cW) = some false)
    (nTE : (cT == cE) = false) (sTE : PySem.W.subIn K (.ref cT) (.ref cE) = some false)
    (nLT : (cL == cT) = false) (sLT : PySem.W.subIn K (.ref cL) (.ref cT) = some false)
    (nLI : (cL == cI) = false) (sLI : PySem.W.subIn K (.ref cL) (.ref cI) = some false)
    (nLR : (cL == cR) = false) (sLR : PySem.W.subIn K (.ref cL) (.ref cR) = some false)
    (nLN : (cL == cN) = false) (sLN : PySem.W.subIn K (.ref cL) (.ref cN) = some false)
    (nLU : (cL == cU) = false) (sLU : PySem.W.subIn K (.ref cL) (.ref cU) = some false)
    (nLM : (cL == cM) = false) (sLM : PySem.W.subIn K (.ref cL) (.ref cM) = some false)
    (nLO : (cL == cO) = false) (sLO : PySem.W.subIn K (.ref cL) (.ref cO) = some false)
    (nLY : (cL == cY) = false) (sLY : PySem.W.subIn K (.ref cL) (.ref cY) = some false)
    (nLW : (cL == cW) = false) (sLW : PySem.W.subIn K (.ref cL) (.ref cW) = some false)
    (nLE : (cL == cE) = false) (sLE : PySem.W.subIn K (.ref cL) (.ref cE) = some false)
    (nIT : (cI == cT) = false) (sIT : PySem.W.subIn K (.ref cI) (.ref cT) = some false)
    (nIL : (cI == cL) = false) (sIL : PySem.W.subIn K (.ref cI) (.ref cL) = some false)
    (nIR : (cI == cR) = false) (sIR : PySem.W.subIn K (.ref cI) (.ref cR) = some false)
    (nIN : (cI == cN) = false) (sIN : PySem.W.subIn K (.ref cI) (.ref cN) = some false)
    (nIU : (cI == cU) = false) (sIU : PySem.W.subIn K (.ref cI) (.ref cU) = some false)
    (nIM : (cI == cM) = false) (sIM : PySem.W.subIn K (.ref cI) (.ref cM) = some false)
    (nIO : (cI == cO) = false) (sIO : PySem.W.subIn K (.ref cI) (.ref cO) = some false)
    (nIY : (cI == cY) = false) (sIY : PySem.W.subIn K (.ref cI) (.ref cY) = some false)
    (nIW : (cI == cW) = false) (sIW : PySem.W.subIn K (.ref cI) (.ref cW) = some false)
    (nIE : (cI == cE) = false) (sIE : PySem.W.subIn K (.ref cI) (.ref cE) = some false)
    (nRT : (cR == cT) = false) (sRT : PySem.W.subIn K (.ref cR) (.ref cT) = some false)
    (nRL : (cR == cL) = false) (sRL : PySem.W.subIn K (.ref cR) (.ref cL) = some false)
    (nRI : (cR == cI) = false) (sRI : PySem.W.subIn K (.ref cR) (.ref cI) = some false)
    (nRN : (cR == cN) = false) (sRN : PySem.W.subIn K (.ref cR) (.ref cN) = some false)
    (nRU : (cR == cU) = false) (sRU : PySem.W.subIn K (.ref cR) (.ref cU) = some false)
    (nRM : (cR == cM) = false) (sRM : PySem.W.subIn K (.ref cR) (.ref cM) = some false)
    (nRO : (cR == cO) = false) (sRO : PySem.W.subIn K (.ref cR) (.ref cO) = some false)
    (nRY : (cR == cY) = false) (sRY : PySem.W.subIn K (.ref cR) (.ref cY) = some false)
    (nRW : (cR == cW) = false) (sRW : PySem.W.subIn K (.ref cR) (.ref cW) = some false)
    (nRE : (cR == cE) = false) (sRE : PySem.W.subIn K (.ref cR) (.ref cE) = some false)
    (nNT : (cN == cT) = false) (sNT : PySem.W.subIn K (.ref cN) (.ref cT) = some false)
    (nNL : (cN == cL) = false) (sNL : PySem.W.subIn K (.ref cN) (.ref cL) = some false)
    (nNI : (cN == cI) = false) (sNI : PySem.W.subIn K (.ref cN) (.ref cI) = some false)
    (nNR : (cN == cR) = false) (sNR : PySem.W.subIn K (.ref cN) (.ref cR) = some false)
    (nNU : (cN == cU) = false) (sNU : PySem.W.subIn K (.ref cN) (.ref cU) = some false)
    (nNM : (cN == cM) = false) (sNM : PySem.W.subIn K (.ref cN) (.ref cM) = some false)
    (nNO : (cN == cO) = false) (sNO : PySem.W.subIn K (.ref cN) (.ref cO) = some false)
    (nNY : (cN == cY) = false) (sNY : PySem.W.subIn K (.ref cN) (.ref cY) = some false)
    (nNW : (cN == cW) = false) (sNW : PySem.W.subIn K (.ref cN) (.ref cW) = some false)
    (nNE : (cN == cE) = false) (sNE : PySem.W.subIn K (.ref cN) (.ref cE) = some false)
    (nUT : (cU == cT) = false) (sUT : PySem.W.subIn K (.ref cU) (.ref cT) = some false)
    (nUL : (cU == cL) = false) (sUL : PySem.W.subIn K (.ref cU) (.ref cL) = some false)
    (nUI : (cU == cI) = false) (sUI : PySem.W.subIn K (.ref cU) (.ref cI) = some false)
    (nUR : (cU == cR) = false) (sUR : PySem.W.subIn K (.ref cU) (.ref cR) = some false)
    (nUN : (cU == cN) = false) (sUN : PySem.W.subIn K (.ref cU) (.ref cN) = some false)
    (nUM : (cU == cM) = false) (sUM : PySem.W.subIn K (.ref cU) (.ref cM) = some false)
    (nUO : (cU == cO) = false) (sUO : PySem.W.subIn K (.ref cU) (.ref cO) = some false)
    (nUY : (cU == cY) = false) (sUY : PySem.W.subIn K (.ref cU) (.ref cY) = some false)
    (nUW : (cU == cW) = false) (sUW : PySem.W.subIn K (.ref cU) (.ref cW) = some false)
    (nUE : (cU == cE) = false) (sUE : PySem.W.subIn K (.ref cU) (.ref cE) = some false)
    (nMT : (cM == cT) = false) (sMT : PySem.W.subIn K (.ref cM) (.ref cT) = some false)
    (nML : (cM == cL) = false) (sML : PySem.W.subIn K (.ref cM) (.ref cL) = some false)
    (nMI : (cM == cI) = false) (sMI : PySem.W.subIn K (.ref cM) (.ref cI) = some false)
    (nMR : (cM == cR) = false) (sMR : PySem.W.subIn K (.ref cM) (.ref cR) = some false)
    (nMN : (cM == cN) = false) (sMN : PySem.W.subIn K (.ref cM) (.ref cN) = some false)
    (nMU : (cM == cU) = false) (sMU : PySem.W.subIn K (.ref cM) (.ref cU) = some false)
    (nMO : (cM == cO) = false) (sMO : PySem.W.subIn K (.ref cM) (.ref cO) = some false)
    (nMY : (cM == cY) = false) (sMY : PySem.W.subIn K (.ref cM) (.ref cY) = some false)
    (nMW : (cM == cW) = false) (sMW : PySem.W.subIn K (.ref cM) (.ref cW) = some false)
    (nME : (cM == cE) = false) (sME : PySem.W.subIn K (.ref cM) (.ref cE) = some false)
    (nOT : (cO == cT) = false) (sOT : PySem.W.subIn K (.ref cO) (.ref cT) = some false)
    (nOL : (cO == cL) = false) (sOL : PySem.W.subIn K (.ref cO) (.ref cL) = some false)
    (nOI : (cO == cI) = false) (sOI : PySem.W.subIn K (.ref cO) (.ref cI) = some false)
    (nOR : (cO == cR) = false) (sOR : PySem.W.subIn K (.ref cO) (.ref cR) = some false)
    (nON : (cO == cN) = false) (sON : PySem.W.subIn K (.ref cO) (.ref cN) = some false)
    (nOU : (cO == cU) = false) (sOU : PySem.W.subIn K (.ref cO) (.ref cU) = some false)
    (nOM : (cO == cM) = false) (sOM : PySem.W.subIn K (.ref cO) (.ref cM) = some false)
    (nOY : (cO == cY) = false) (sOY : PySem.W.subIn K (.ref cO) (.ref cY) = some false)
    (nOW : (cO == cW) = false) (sOW : PySem.W.subIn K (.ref cO) (.ref cW) = some false)
    (nOE : (cO == cE) = false) (sOE : PySem.W.subIn K (.ref cO) (.ref cE) = some false)
    (nYT : (cY == cT) = false) (sYT : PySem.W.subIn K (.ref cY) (.ref cT) = some false)
    (nYL : (cY == cL) = false) (sYL : PySem.W.subIn K (.ref cY) (.ref cL) = some false)
    (nYI : (cY == cI) = false) (sYI : PySem.W.subIn K (.ref cY) (.ref cI) = some false)
    (nYR : (cY == cR) = false) (sYR : PySem.W.subIn K (.ref cY) (.ref cR) = some false)
    (nYN : (cY == cN) = false) (sYN : PySem.W.subIn K (.ref cY) (.ref cN) = some false)
    (nYU : (cY == cU) = false) (sYU : PySem.W.subIn K (.ref cY) (.ref cU) = some false)
    (nYM : (cY == cM) = false) (sYM : PySem.W.subIn K (.ref cY) (.ref cM) = some false)
    (nYO : (cY == cO) = false) (sYO : PySem.W.subIn K (.ref cY) (.ref cO) = some false)
    (nYW : (cY == cW) = false) (sYW : PySem.W.subIn K (.ref cY) (.ref cW) = some false)
    (nYE : (cY == cE) = false) (sYE : PySem.W.subIn K (.ref cY) (.ref cE) = some false)
    (nWT : (cW == cT) = false) (sWT : PySem.W.subIn K (.ref cW) (.ref cT) = some false)
    (nWL : (cW == cL) = false) (sWL : PySem.W.subIn K (.ref cW) (.ref cL) = some false)
    (nWI : (cW == cI) = false) (sWI : PySem.W.subIn K (.ref cW) (.ref cI) = some false)
    (nWR : (cW == cR) = false) (sWR : PySem.W.subIn K (.ref cW) (.ref cR) = some false)
    (nWN : (cW == cN) = false) (sWN : PySem.W.subIn K (.ref cW) (.ref cN) = some false)
    (nWU : (cW == cU) = false) (sWU : PySem.W.subIn K (.ref cW) (.ref cU) = some false)
    (nWM : (cW == cM) = false) (sWM : PySem.W.subIn K (.ref cW) (.ref cM) = some false)
    (nWO : (cW == cO) = false) (sWO : PySem.W.subIn K (.ref cW) (.ref cO) = some false)
    (nWY : (cW == cY) = false) (sWY : PySem.W.subIn K (.ref cW) (.ref cY) = some false)
    (nWE : (cW == cE) = false) (sWE : PySem.W.subIn K (.ref cW) (.ref cE) = some false)
    (nET : (cE == cT) = false) (sET : PySem.W.subIn K (.ref cE) (.ref cT) = some false)
    (nEL : (cE == cL) = false) (sEL : PySem.W.subIn K (.ref cE) (.ref cL) = some false)
    (nEI : (cE == cI) = false) (sEI : PySem.W.subIn K (.ref cE) (.ref cI) = some false)
    (nER : (cE == cR) = false) (sER : PySem.W.subIn K (.ref cE) (.ref cR) = some false)
    (nEN : (cE == cN) = false) (sEN : PySem.W.subIn K (.ref cE) (.ref cN) = some false)
    (nEU : (cE == cU) = false) (sEU : PySem.W.subIn K (.ref cE) (.ref cU) = some false)
    (nEM : (cE == cM) = false) (sEM : PySem.W.subIn K (.ref cE) (.ref cM) = some false)
    (nEO : (cE == cO) = false) (sEO : PySem.W.subIn K (.ref cE) (.ref cO) = some false)
    (nEY : (cE == cY) = false) (sEY : PySem.W.subIn K (.ref cE) (.ref cY) = some false)
    (nEW : (cE == cW) = false) (sEW : PySem.W.subIn K (.ref cE) (.ref cW) = some false)
    (vTValueError : PySem.W.subIn K (.ref cT) (.type "ValueError") = some true)
    (vLValueError : PySem.W.subIn K (.ref cL) (.type "ValueError") = some true)
    (vIValueError : PySem.W.subIn K (.ref cI) (.type "ValueError") = some true)
    (vRValueError : PySem.W.subIn K (.ref cR) (.type "ValueError") = some true)
    (vNValueError : PySem.W.subIn K (.ref cN) (.type "ValueError") = some true)
    (vUValueError : PySem.W.subIn K (.ref cU) (.type "ValueError") = some true)
    (vMValueError : PySem.W.subIn K (.ref cM) (.type "ValueError") = some true)
    (vOValueError : PySem.W.subIn K (.ref cO) (.type "ValueError") = some true)
    (vYValueError : PySem.W.subIn K (.ref cY) (.type "ValueError") = some true)
    (vWValueError : PySem.W.subIn K (.ref cW) (.type "ValueError") = some true)
    (vEValueError : PySem.W.subIn K (.ref cE) (.type "ValueError") = some true)
    {f0 : Addr} {od0 an0 : Option Addr} {sl0 : Array (Option Value)} {oc0 kV0 dc0 pm0 ct0 : Value} {cd0 : Value}
    (a0 : PySem.W.nsIn K mainGlobals "_law_pot" = some (some (.ref f0)))
    (l0 : K.lookup f0 = some ⟨oc0, od0, .func (PySem.W.fnOf "_law_pot" "_law_pot" (defArgs sPot) (defBody sPot) (defScope sPot) .none kV0 dc0 pm0 an0 cd0 ct0), sl0⟩)
    (c0 : PySem.W.codeIn K cd0 "_law_pot" = true) (k0 : PySem.W.keepIn K (.ref f0) = true)
    {f1 : Addr} {od1 an1 : Option Addr} {sl1 : Array (Option Value)} {oc1 kV1 dc1 pm1 ct1 : Value} {cd1 : Value}
    (a1 : PySem.W.nsIn K mainGlobals "_law_take" = some (some (.ref f1)))
    (l1 : K.lookup f1 = some ⟨oc1, od1, .func (PySem.W.fnOf "_law_take" "_law_take" (defArgs sTake) (defBody sTake) (defScope sTake) .none kV1 dc1 pm1 an1 cd1 ct1), sl1⟩)
    (c1 : PySem.W.codeIn K cd1 "_law_take" = true) (k1 : PySem.W.keepIn K (.ref f1) = true)
    {f2 : Addr} {od2 an2 : Option Addr} {sl2 : Array (Option Value)} {oc2 kV2 dc2 pm2 ct2 : Value} {cd2 : Value}
    (a2 : PySem.W.nsIn K mainGlobals "_law_of" = some (some (.ref f2)))
    (l2 : K.lookup f2 = some ⟨oc2, od2, .func (PySem.W.fnOf "_law_of" "_law_of" (defArgs sOf) (defBody sOf) (defScope sOf) .none kV2 dc2 pm2 an2 cd2 ct2), sl2⟩)
    (c2 : PySem.W.codeIn K cd2 "_law_of" = true) (k2 : PySem.W.keepIn K (.ref f2) = true)
    {f3 : Addr} {od3 an3 : Option Addr} {sl3 : Array (Option Value)} {oc3 kV3 dc3 pm3 ct3 : Value} {cd3 : Value}
    (a3 : PySem.W.nsIn K mainGlobals "_law_odd" = some (some (.ref f3)))
    (l3 : K.lookup f3 = some ⟨oc3, od3, .func (PySem.W.fnOf "_law_odd" "_law_odd" (defArgs sOdd) (defBody sOdd) (defScope sOdd) .none kV3 dc3 pm3 an3 cd3 ct3), sl3⟩)
    (c3 : PySem.W.codeIn K cd3 "_law_odd" = true) (k3 : PySem.W.keepIn K (.ref f3) = true)
    {f4 : Addr} {od4 an4 : Option Addr} {sl4 : Array (Option Value)} {oc4 kV4 dc4 pm4 ct4 : Value} {cd4 : Value}
    (a4 : PySem.W.nsIn K mainGlobals "_law_kinds" = some (some (.ref f4)))
    (l4 : K.lookup f4 = some ⟨oc4, od4, .func (PySem.W.fnOf "_law_kinds" "_law_kinds" (defArgs s__law_kinds) (defBody s__law_kinds) (defScope s__law_kinds) .none kV4 dc4 pm4 an4 cd4 ct4), sl4⟩)
    (c4 : PySem.W.codeIn K cd4 "_law_kinds" = true) (k4 : PySem.W.keepIn K (.ref f4) = true)
    {f5 : Addr} {od5 an5 : Option Addr} {sl5 : Array (Option Value)} {oc5 kV5 dc5 pm5 ct5 : Value} {cd5 : Value}
    (a5 : PySem.W.nsIn K mainGlobals "_law_value" = some (some (.ref f5)))
    (l5 : K.lookup f5 = some ⟨oc5, od5, .func (PySem.W.fnOf "_law_value" "_law_value" (defArgs s__law_value) (defBody s__law_value) (defScope s__law_value) .none kV5 dc5 pm5 an5 cd5 ct5), sl5⟩)
    (c5 : PySem.W.codeIn K cd5 "_law_value" = true) (k5 : PySem.W.keepIn K (.ref f5) = true)
    {f6 : Addr} {od6 an6 : Option Addr} {sl6 : Array (Option Value)} {oc6 kV6 dc6 pm6 ct6 : Value} {cd6 : Value}
    (a6 : PySem.W.nsIn K mainGlobals "law" = some (some (.ref f6)))
    (l6 : K.lookup f6 = some ⟨oc6, od6, .func (PySem.W.fnOf "law" "law" (defArgs sLaw) (defBody sLaw) (defScope sLaw) .none kV6 dc6 pm6 an6 cd6 ct6), sl6⟩)
    (c6 : PySem.W.codeIn K cd6 "law" = true) (k6 : PySem.W.keepIn K (.ref f6) = true)
    (z0 : PySem.W.nsIn K mainGlobals "ValueError" = some none)
    (z1 : PySem.W.nsIn K mainGlobals "abs" = some none)
    (z2 : PySem.W.nsIn K mainGlobals "enumerate" = some none)
    (z3 : PySem.W.nsIn K mainGlobals "int" = some none)
    (z4 : PySem.W.nsIn K mainGlobals "isinstance" = some none)
    (z5 : PySem.W.nsIn K mainGlobals "len" = some none)
    (z6 : PySem.W.nsIn K mainGlobals "max" = some none)
    (z7 : PySem.W.nsIn K mainGlobals "min" = some none)
    (z8 : PySem.W.nsIn K mainGlobals "range" = some none)
    (z9 : PySem.W.nsIn K mainGlobals "repr" = some none)
    : ∃ fd : FuncData, (∀ (s : Shared) (v : Value), BindsTo s fd ⟨[v], []⟩ [("script", v)]) ∧ ∀ base : Heap, K.In base → base.Ns mainGlobals mg → FnG l.prog w K mg base CX0 8 fa fd ["script"] (spLaw K) := by
  have e := hfa.symm.trans (PySem.W.mg_of X G a6)
  cases e
  have F0 := fun_mk (st := sPot) l0 c0 k0
  have b0 := F0.binds (ps := ["script", "k"]) fun _ _ _ _ _ _ us hl => match us, hl with | [_, _], _ => rfl
  have F1 := fun_mk (st := sTake) l1 c1 k1
  have b1 := F1.binds (ps := ["pot", "bound"]) fun _ _ _ _ _ _ us hl => match us, hl with | [_, _], _ => rfl
  have F2 := fun_mk (st := sOf) l2 c2 k2
  have b2 := F2.binds (ps := ["pot", "some"]) fun _ _ _ _ _ _ us hl => match us, hl with | [_, _], _ => rfl
  have F3 := fun_mk (st := sOdd) l3 c3 k3
  have b3 := F3.binds (ps := ["pot", "deep"]) fun _ _ _ _ _ _ us hl => match us, hl with | [_, _], _ => rfl
  have F4 := fun_mk (st := s__law_kinds) l4 c4 k4
  have b4 := F4.binds (ps := ["error"]) fun _ _ _ _ _ _ us hl => match us, hl with | [_], _ => rfl
  have F5 := fun_mk (st := s__law_value) l5 c5 k5
  have b5 := F5.binds (ps := ["error"]) fun _ _ _ _ _ _ us hl => match us, hl with | [_], _ => rfl
  have F6 := fun_mk (st := sLaw) l6 c6 k6
  have FIT := fun_mk (st := sI0) liT ciT kiT
  have bIT := FIT.binds (ps := ["self", "text"]) fun _ _ _ _ _ _ us hl => match us, hl with | [_, _], _ => rfl
  have FIL := fun_mk (st := sI1) liL ciL kiL
  have bIL := FIL.binds (ps := ["self", "limit"]) fun _ _ _ _ _ _ us hl => match us, hl with | [_, _], _ => rfl
  have FII := fun_mk (st := sI2) liI ciI kiI
  have bII := FII.binds (ps := ["self", "index"]) fun _ _ _ _ _ _ us hl => match us, hl with | [_, _], _ => rfl
  have FIR := fun_mk (st := sI3) liR ciR kiR
  have bIR := FIR.binds (ps := ["self", "start", "stop"]) fun _ _ _ _ _ _ us hl => match us, hl with | [_, _, _], _ => rfl
  have FIN := fun_mk (st := sI4) liN ciN kiN
  have bIN := FIN.binds (ps := ["self", "name"]) fun _ _ _ _ _ _ us hl => match us, hl with | [_, _], _ => rfl
  have FIU := fun_mk (st := sI5) liU ciU kiU
  have bIU := FIU.binds (ps := ["self", "runs"]) fun _ _ _ _ _ _ us hl => match us, hl with | [_, _], _ => rfl
  have FIM := fun_mk (st := sI6) liM ciM kiM
  have bIM := FIM.binds (ps := ["self", "times"]) fun _ _ _ _ _ _ us hl => match us, hl with | [_, _], _ => rfl
  have FIO := fun_mk (st := sI7) liO ciO kiO
  have bIO := FIO.binds (ps := ["self", "name"]) fun _ _ _ _ _ _ us hl => match us, hl with | [_, _], _ => rfl
  have FIY := fun_mk (st := sI8) liY ciY kiY
  have bIY := FIY.binds (ps := ["self", "limit"]) fun _ _ _ _ _ _ us hl => match us, hl with | [_, _], _ => rfl
  have FIE := fun_mk (st := sI10) liE ciE kiE
  have bIE := FIE.binds (ps := ["self", "line"]) fun _ _ _ _ _ _ us hl => match us, hl with | [_, _], _ => rfl
  let Y : Facts K mg :=
    { fl_pot := F0, gl_pot := PySem.W.mg_of X G a0, bl_pot := b0, fl_take := F1, gl_take := PySem.W.mg_of X G a1, bl_take := b1, fl_of := F2, gl_of := PySem.W.mg_of X G a2, bl_of := b2, fl_odd := F3, gl_odd := PySem.W.mg_of X G a3, bl_odd := b3, fl_kinds := F4, gl_kinds := PySem.W.mg_of X G a4, bl_kinds := b4, fl_value := F5, gl_value := PySem.W.mg_of X G a5, bl_value := b5, ValueError := PySem.W.mg_none_of X G z0, abs := PySem.W.mg_none_of X G z1, enumerate := PySem.W.mg_none_of X G z2, int := PySem.W.mg_none_of X G z3, isinstance := PySem.W.mg_none_of X G z4, len := PySem.W.mg_none_of X G z5, max := PySem.W.mg_none_of X G z6, min := PySem.W.mg_none_of X G z7, range := PySem.W.mg_none_of X G z8, repr := PySem.W.mg_none_of X G z9, .. }
  let EF := (show Errs K mg from
    { gB := PySem.W.mg_of X G gcB,
      t0 := { g := PySem.W.mg_of X G gcT, ox := ⟨⟨nmT, qT, NT, bsT, _, snT, subT, abT, colT, ddT, m0T, m1T, m2T, m3T, m5T, xT, rfl⟩, saT, eCT, tT, kCT⟩, er := ⟨gaT, ggT, eCT, hT, clT, sp0, tk0, mrT⟩, no := nbT0, iC := inT, tI := tiT, F := FIT, b := bIT },
      t1 := { g := PySem.W.mg_of X G gcL, ox := ⟨⟨nmL, qL, NL, bsL, _, snL, subL, abL, colL, ddL, m0L, m1L, m2L, m3L, m5L, xL, rfl⟩, saL, eCL, tL, kCL⟩, er := ⟨gaL, ggL, eCL, hL, clL, sp0, tk0, mrL⟩, no := nbL0, iC := inL, tI := tiL, F := FIL, b := bIL },
      t2 := { g := PySem.W.mg_of X G gcI, ox := ⟨⟨nmI, qI, NI, bsI, _, snI, subI, abI, colI, ddI, m0I, m1I, m2I, m3I, m5I, xI, rfl⟩, saI, eCI, tI, kCI⟩, er := ⟨gaI, ggI, eCI, hI, clI, sp0, tk0, mrI⟩, no := nbI0, iC := inI, tI := tiI, F := FII, b := bII },
      t3 := { g := PySem.W.mg_of X G gcR, ox := ⟨⟨nmR, qR, NR, bsR, _, snR, subR, abR, colR, ddR, m0R, m1R, m2R, m3R, m5R, xR, rfl⟩, saR, eCR, tR, kCR⟩, er := ⟨gaR, ggR, eCR, hR, clR, sp0, tk0, mrR⟩, no := nbR0, no2 := nbR1, iC := inR, tI := tiR, F := FIR, b := bIR },
      t4 := { g := PySem.W.mg_of X G gcN, ox := ⟨⟨nmN, qN, NN, bsN, _, snN, subN, abN, colN, ddN, m0N, m1N, m2N, m3N, m5N, xN, rfl⟩, saN, eCN, tN, kCN⟩, er := ⟨gaN, ggN, eCN, hN, clN, sp0, tk0, mrN⟩, no := nbN0, iC := inN, tI := tiN, F := FIN, b := bIN },
      t5 := { g := PySem.W.mg_of X G gcU, ox := ⟨⟨nmU, qU, NU, bsU, _, snU, subU, abU, colU, ddU, m0U, m1U, m2U, m3U, m5U, xU, rfl⟩, saU, eCU, tU, kCU⟩, er := ⟨gaU, ggU, eCU, hU, clU, sp0, tk0, mrU⟩, no := nbU0, iC := inU, tI := tiU, F := FIU, b := bIU },
      t6 := { g := PySem.W.mg_of X G gcM, ox := ⟨⟨nmM, qM, NM, bsM, _, snM, subM, abM, colM, ddM, m0M, m1M, m2M, m3M, m5M, xM, rfl⟩, saM, eCM, tM, kCM⟩, er := ⟨gaM, ggM, eCM, hM, clM, sp0, tk0, mrM⟩, no := nbM0, iC := inM, tI := tiM, F := FIM, b := bIM },
      t7 := { g := PySem.W.mg_of X G gcO, ox := ⟨⟨nmO, qO, NO, bsO, _, snO, subO, abO, colO, ddO, m0O, m1O, m2O, m3O, m5O, xO, rfl⟩, saO, eCO, tO, kCO⟩, er := ⟨gaO, ggO, eCO, hO, clO, sp0, tk0, mrO⟩, no := nbO0, iC := inO, tI := tiO, F := FIO, b := bIO },
      t8 := { g := PySem.W.mg_of X G gcY, ox := ⟨⟨nmY, qY, NY, bsY, _, snY, subY, abY, colY, ddY, m0Y, m1Y, m2Y, m3Y, m5Y, xY, rfl⟩, saY, eCY, tY, kCY⟩, er := ⟨gaY, ggY, eCY, hY, clY, sp0, tk0, mrY⟩, no := nbY0, iC := inY, tI := tiY, F := FIY, b := bIY },
      t9 := { g := PySem.W.mg_of X G gcW, ox := ⟨⟨nmW, qW, NW, bsW, _, snW, subW, abW, colW, ddW, m0W, m1W, m2W, m3W, m5W, xW, rfl⟩, saW, eCW, tW, kCW⟩, er := ⟨gaW, ggW, eCW, hW, clW, sp0, tk0, mrW⟩, iC := inW },
      t10 := { g := PySem.W.mg_of X G gcE, ox := ⟨⟨nmE, qE, NE, bsE, _, snE, subE, abE, colE, ddE, m0E, m1E, m2E, m3E, m5E, xE, rfl⟩, saE, eCE, tE, kCE⟩, er := ⟨gaE, ggE, eCE, hE, clE, sp0, tk0, mrE⟩, no := nbE0, iC := inE, tI := tiE, F := FIE, b := bIE },
      kit := fun i j hi hj => by
        have key : ∀ i, i < 11 → ∀ j, j < 11 → PySem.W.kitOne K (.ref (pick [cT, cL, cI, cR, cN, cU, cM, cO, cY, cW, cE] i)) (.ref (pick [cT, cL, cI, cR, cN, cU, cM, cO, cY, cW, cE] j)) = some (decide (i = j)) := fun i hi => match i, hi with
          | 0, _ => fun j hj => match j, hj with
            | 0, _ => kit_self
            | 1, _ => (kit_no nTL hL tL sTL)
            | 2, _ => (kit_no nTI hI tI sTI)
            | 3, _ => (kit_no nTR hR tR sTR)
            | 4, _ => (kit_no nTN hN tN sTN)
            | 5, _ => (kit_no nTU hU tU sTU)
            | 6, _ => (kit_no nTM hM tM sTM)
            | 7, _ => (kit_no nTO hO tO sTO)
            | 8, _ => (kit_no nTY hY tY sTY)
            | 9, _ => (kit_no nTW hW tW sTW)
            | 10, _ => (kit_no nTE hE tE sTE)
            | _ + 11, h => absurd h (by omega)
          | 1, _ => fun j hj => match j, hj with
            | 0, _ => (kit_no nLT hT tT sLT)
            | 1, _ => kit_self
            | 2, _ => (kit_no nLI hI tI sLI)
            | 3, _ => (kit_no nLR hR tR sLR)
            | 4, _ => (kit_no nLN hN tN sLN)
            | 5, _ => (kit_no nLU hU tU sLU)
            | 6, _ => (kit_no nLM hM tM sLM)
            | 7, _ => (kit_no nLO hO tO sLO)
            | 8, _ => (kit_no nLY hY tY sLY)
            | 9, _ => (kit_no nLW hW tW sLW)
            | 10, _ => (kit_no nLE hE tE sLE)
            | _ + 11, h => absurd h (by omega)
          | 2, _ => fun j hj => match j, hj with
            | 0, _ => (kit_no nIT hT tT sIT)
            | 1, _ => (kit_no nIL hL tL sIL)
            | 2, _ => kit_self
            | 3, _ => (kit_no nIR hR tR sIR)
            | 4, _ => (kit_no nIN hN tN sIN)
            | 5, _ => (kit_no nIU hU tU sIU)
            | 6, _ => (kit_no nIM hM tM sIM)
            | 7, _ => (kit_no nIO hO tO sIO)
            | 8, _ => (kit_no nIY hY tY sIY)
            | 9, _ => (kit_no nIW hW tW sIW)
            | 10, _ => (kit_no nIE hE tE sIE)
            | _ + 11, h => absurd h (by omega)
          | 3, _ => fun j hj => match j, hj with
            | 0, _ => (kit_no nRT hT tT sRT)
            | 1, _ => (kit_no nRL hL tL sRL)
            | 2, _ => (kit_no nRI hI tI sRI)
            | 3, _ => kit_self
            | 4, _ => (kit_no nRN hN tN sRN)
            | 5, _ => (kit_no nRU hU tU sRU)
            | 6, _ => (kit_no nRM hM tM sRM)
            | 7, _ => (kit_no nRO hO tO sRO)
            | 8, _ => (kit_no nRY hY tY sRY)
            | 9, _ => (kit_no nRW hW tW sRW)
            | 10, _ => (kit_no nRE hE tE sRE)
            | _ + 11, h => absurd h (by omega)
          | 4, _ => fun j hj => match j, hj with
            | 0, _ => (kit_no nNT hT tT sNT)
            | 1, _ => (kit_no nNL hL tL sNL)
            | 2, _ => (kit_no nNI hI tI sNI)
            | 3, _ => (kit_no nNR hR tR sNR)
            | 4, _ => kit_self
            | 5, _ => (kit_no nNU hU tU sNU)
            | 6, _ => (kit_no nNM hM tM sNM)
            | 7, _ => (kit_no nNO hO tO sNO)
            | 8, _ => (kit_no nNY hY tY sNY)
            | 9, _ => (kit_no nNW hW tW sNW)
            | 10, _ => (kit_no nNE hE tE sNE)
            | _ + 11, h => absurd h (by omega)
          | 5, _ => fun j hj => match j, hj with
            | 0, _ => (kit_no nUT hT tT sUT)
            | 1, _ => (kit_no nUL hL tL sUL)
            | 2, _ => (kit_no nUI hI tI sUI)
            | 3, _ => (kit_no nUR hR tR sUR)
            | 4, _ => (kit_no nUN hN tN sUN)
            | 5, _ => kit_self
            | 6, _ => (kit_no nUM hM tM sUM)
            | 7, _ => (kit_no nUO hO tO sUO)
            | 8, _ => (kit_no nUY hY tY sUY)
            | 9, _ => (kit_no nUW hW tW sUW)
            | 10, _ => (kit_no nUE hE tE sUE)
            | _ + 11, h => absurd h (by omega)
          | 6, _ => fun j hj => match j, hj with
            | 0, _ => (kit_no nMT hT tT sMT)
            | 1, _ => (kit_no nML hL tL sML)
            | 2, _ => (kit_no nMI hI tI sMI)
            | 3, _ => (kit_no nMR hR tR sMR)
            | 4, _ => (kit_no nMN hN tN sMN)
            | 5, _ => (kit_no nMU hU tU sMU)
            | 6, _ => kit_self
            | 7, _ => (kit_no nMO hO tO sMO)
            | 8, _ => (kit_no nMY hY tY sMY)
            | 9, _ => (kit_no nMW hW tW sMW)
            | 10, _ => (kit_no nME hE tE sME)
            | _ + 11, h => absurd h (by omega)
          | 7, _ => fun j hj => match j, hj with
            | 0, _ => (kit_no nOT hT tT sOT)
            | 1, _ => (kit_no nOL hL tL sOL)
            | 2, _ => (kit_no nOI hI tI sOI)
            | 3, _ => (kit_no nOR hR tR sOR)
            | 4, _ => (kit_no nON hN tN sON)
            | 5, _ => (kit_no nOU hU tU sOU)
            | 6, _ => (kit_no nOM hM tM sOM)
            | 7, _ => kit_self
            | 8, _ => (kit_no nOY hY tY sOY)
            | 9, _ => (kit_no nOW hW tW sOW)
            | 10, _ => (kit_no nOE hE tE sOE)
            | _ + 11, h => absurd h (by omega)
          | 8, _ => fun j hj => match j, hj with
            | 0, _ => (kit_no nYT hT tT sYT)
            | 1, _ => (kit_no nYL hL tL sYL)
            | 2, _ => (kit_no nYI hI tI sYI)
            | 3, _ => (kit_no nYR hR tR sYR)
            | 4, _ => (kit_no nYN hN tN sYN)
            | 5, _ => (kit_no nYU hU tU sYU)
            | 6, _ => (kit_no nYM hM tM sYM)
            | 7, _ => (kit_no nYO hO tO sYO)
            | 8, _ => kit_self
            | 9, _ => (kit_no nYW hW tW sYW)
            | 10, _ => (kit_no nYE hE tE sYE)
            | _ + 11, h => absurd h (by omega)
          | 9, _ => fun j hj => match j, hj with
            | 0, _ => (kit_no nWT hT tT sWT)
            | 1, _ => (kit_no nWL hL tL sWL)
            | 2, _ => (kit_no nWI hI tI sWI)
            | 3, _ => (kit_no nWR hR tR sWR)
            | 4, _ => (kit_no nWN hN tN sWN)
            | 5, _ => (kit_no nWU hU tU sWU)
            | 6, _ => (kit_no nWM hM tM sWM)
            | 7, _ => (kit_no nWO hO tO sWO)
            | 8, _ => (kit_no nWY hY tY sWY)
            | 9, _ => kit_self
            | 10, _ => (kit_no nWE hE tE sWE)
            | _ + 11, h => absurd h (by omega)
          | 10, _ => fun j hj => match j, hj with
            | 0, _ => (kit_no nET hT tT sET)
            | 1, _ => (kit_no nEL hL tL sEL)
            | 2, _ => (kit_no nEI hI tI sEI)
            | 3, _ => (kit_no nER hR tR sER)
            | 4, _ => (kit_no nEN hN tN sEN)
            | 5, _ => (kit_no nEU hU tU sEU)
            | 6, _ => (kit_no nEM hM tM sEM)
            | 7, _ => (kit_no nEO hO tO sEO)
            | 8, _ => (kit_no nEY hY tY sEY)
            | 9, _ => (kit_no nEW hW tW sEW)
            | 10, _ => kit_self
            | _ + 11, h => absurd h (by omega)
          | _ + 11, h => absurd h (by omega)
        exact key i hi j hj,
      kB := fun i hi => match i, hi with
        | 0, _ => kit_no nTB hB tB sTB
        | 1, _ => kit_no nLB hB tB sLB
        | 2, _ => kit_no nIB hB tB sIB
        | 3, _ => kit_no nRB hB tB sRB
        | 4, _ => kit_no nNB hB tB sNB
        | 5, _ => kit_no nUB hB tB sUB
        | 6, _ => kit_no nMB hB tB sMB
        | 7, _ => kit_no nOB hB tB sOB
        | 8, _ => kit_no nYB hB tB sYB
        | 9, _ => kit_no nWB hB tB sWB
        | 10, _ => kit_no nEB hB tB sEB
        | _ + 11, h => absurd h (by omega),
      kV := fun i hi => match i, hi with
        | 0, _ => kit_typ (by decide +kernel) vTValueError
        | 1, _ => kit_typ (by decide +kernel) vLValueError
        | 2, _ => kit_typ (by decide +kernel) vIValueError
        | 3, _ => kit_typ (by decide +kernel) vRValueError
        | 4, _ => kit_typ (by decide +kernel) vNValueError
        | 5, _ => kit_typ (by decide +kernel) vUValueError
        | 6, _ => kit_typ (by decide +kernel) vMValueError
        | 7, _ => kit_typ (by decide +kernel) vOValueError
        | 8, _ => kit_typ (by decide +kernel) vYValueError
        | 9, _ => kit_typ (by decide +kernel) vWValueError
        | 10, _ => kit_typ (by decide +kernel) vEValueError
        | _ + 11, h => absurd h (by omega) })
  exact ⟨_, fun s v => .of_eq rfl, fun base _ _ => ok_law F6 Y EF⟩
end C00
open PySem PySem.W PyProof.Rows
set_option maxHeartbeats 0 in
theorem PySem.Challenge.cw_localblocks_k00_errors_and_their_values_holds : PySem.Challenge.rw_localblocks_k00_errors_and_their_values.Holds := by
  w_on; o_law; k_head; (case hw => w_witness2)
  k_fill
  refine Loc.walkG (l := PySem.Challenge.rw_localblocks_k00_errors_and_their_values) (n := 63) (k := 8) (x := "script") (sp := fun K => C00.spLaw K) rfl (by decide) rfl ⟨rfl, by decide, by decide⟩ (fun w h Y => PySem.W.kIn_of Y) ?F (fun K _ a ns hl hS => ⟨a, ns, rfl, hS, hl, fun _ => rfl⟩)
  case F =>
    intro w mg fa h KX G hmg
    refine' C00.all_mk KX G hmg ?gcB ?gcT ?gcL ?gcI ?gcR ?gcN ?gcU ?gcM ?gcO ?gcY ?gcW ?gcE ?xT ?saT ?gaT ?ggT ?nbT0 ?clT ?mrT ?kCT ?eCT ?tT ?hT ?inT ?tiT ?liT ?ciT ?kiT ?xL ?saL ?gaL ?ggL ?nbL0 ?clL ?mrL ?kCL ?eCL ?tL ?hL ?inL ?tiL ?liL ?ciL ?kiL ?xI ?saI ?gaI ?ggI ?nbI0 ?clI ?mrI ?kCI ?eCI ?tI ?hI ?inI ?tiI ?liI ?ciI ?kiI ?xR ?saR ?gaR ?ggR ?nbR0 ?nbR1 ?clR ?mrR ?kCR ?eCR ?tR ?hR ?inR ?tiR ?liR ?ciR ?kiR ?xN ?saN ?gaN ?ggN ?nbN0 ?clN ?mrN ?kCN ?eCN ?tN ?hN ?inN ?tiN ?liN ?ciN ?kiN ?xU ?saU ?gaU ?ggU ?nbU0 ?clU ?mrU ?kCU ?eCU ?tU ?hU ?inU ?tiU ?liU ?ciU ?kiU ?xM ?saM ?gaM ?ggM ?nbM0 ?clM ?mrM ?kCM ?eCM ?tM ?hM ?inM ?tiM ?liM ?ciM ?kiM ?xO ?saO ?gaO ?ggO ?nbO0 ?clO ?mrO ?kCO ?eCO ?tO ?hO ?inO ?tiO ?liO ?ciO ?kiO ?xY ?saY ?gaY ?ggY ?nbY0 ?clY ?mrY ?kCY ?eCY ?tY ?hY ?inY ?tiY ?liY ?ciY ?kiY ?xW ?saW ?gaW ?ggW ?clW ?mrW ?kCW ?eCW ?tW ?hW ?inW ?xE ?saE ?gaE ?ggE ?nbE0 ?clE ?mrE ?kCE ?eCE ?tE ?hE ?inE ?tiE ?liE ?ciE ?kiE ?sp0 ?tk0 ?hB ?tB ?sB ?nTB ?sTB ?nLB ?sLB ?nIB ?sIB ?nRB ?sRB ?nNB ?sNB ?nUB ?sUB ?nMB ?sMB ?nOB ?sOB ?nYB ?sYB ?nWB ?sWB ?nEB ?sEB ?nTL ?sTL ?nTI ?sTI ?nTR ?sTR ?nTN ?sTN ?nTU ?sTU ?nTM ?sTM ?nTO ?sTO ?nTY ?sTY ?nTW ?sTW ?nTE ?sTE ?nLT ?sLT ?nLI ?sLI ?nLR ?sLR ?nLN ?sLN ?nLU ?sLU ?nLM ?sLM ?nLO ?sLO ?nLY ?sLY ?nLW ?sLW ?nLE ?sLE ?nIT ?sIT ?nIL ?sIL ?nIR ?sIR ?nIN ?sIN ?nIU ?sIU ?nIM ?sIM ?nIO ?sIO ?nIY ?sIY ?nIW ?sIW ?nIE ?sIE ?nRT ?sRT ?nRL ?sRL ?nRI ?sRI ?nRN ?sRN ?nRU ?sRU ?nRM ?sRM ?nRO ?sRO ?nRY ?sRY ?nRW ?sRW ?nRE ?sRE ?nNT ?sNT ?nNL ?sNL ?nNI ?sNI ?nNR ?sNR ?nNU ?sNU ?nNM ?sNM ?nNO ?sNO ?nNY ?sNY ?nNW ?sNW ?nNE ?sNE ?nUT ?sUT ?nUL ?sUL ?nUI ?sUI ?nUR ?sUR ?nUN ?sUN ?nUM ?sUM ?nUO ?sUO ?nUY ?sUY ?nUW ?sUW ?nUE ?sUE ?nMT ?sMT ?nML ?sML ?nMI ?sMI ?nMR ?sMR ?nMN ?sMN ?nMU ?sMU ?nMO ?sMO ?nMY ?sMY ?nMW ?sMW ?nME ?sME ?nOT ?sOT ?nOL ?sOL ?nOI ?sOI ?nOR ?sOR ?nON ?sON ?nOU ?sOU ?nOM ?sOM ?nOY ?sOY ?nOW ?sOW ?nOE ?sOE ?nYT ?sYT ?nYL ?sYL ?nYI ?sYI ?nYR ?sYR ?nYN ?sYN ?nYU ?sYU ?nYM ?sYM ?nYO ?sYO ?nYW ?sYW ?nYE ?sYE ?nWT ?sWT ?nWL ?sWL ?nWI ?sWI ?nWR ?sWR ?nWN ?sWN ?nWU ?sWU ?nWM ?sWM ?nWO ?sWO ?nWY ?sWY ?nWE ?sWE ?nET ?sET ?nEL ?sEL ?nEI ?sEI ?nER ?sER ?nEN ?sEN ?nEU ?sEU ?nEM ?sEM ?nEO ?sEO ?nEY ?sEY ?nEW ?sEW ?vTValueError ?vLValueError ?vIValueError ?vRValueError ?vNValueError ?vUValueError ?vMValueError ?vOValueError ?vYValueError ?vWValueError ?vEValueError ?a0 ?l0 ?c0 ?k0 ?a1 ?l1 ?c1 ?k1 ?a2 ?l2 ?c2 ?k2 ?a3 ?l3 ?c3 ?k3 ?a4 ?l4 ?c4 ?k4 ?a5 ?l5 ?c5 ?k5 ?a6 ?l6 ?c6 ?k6 ?z0 ?z1 ?z2 ?z3 ?z4 ?z5 ?z6 ?z7 ?z8 ?z9
    (case gcB => k_is)
    (case gcT => k_is)
    (case gcL => k_is)
    (case gcI => k_is)
    (case gcR => k_is)
    (case gcN => k_is)
    (case gcU => k_is)
    (case gcM => k_is)
    (case gcO => k_is)
    (case gcY => k_is)
    (case gcW => k_is)
    (case gcE => k_is)
    (case xT => k_is)
    (case saT => k_is)
    (case gaT => k_is)
    (case ggT => k_is)
    (case nbT0 => k_is)
    (case clT => k_is)
    (case mrT => k_is)
    (case kCT => k_is)
    (case eCT => k_is)
    (case tT => k_is)
    (case hT => k_is)
    (case inT => k_is)
    (case tiT => k_is)
    (case liT => k_is)
    (case ciT => k_is)
    (case kiT => k_is)
    (case xL => k_is)
    (case saL => k_is)
    (case gaL => k_is)
    (case ggL => k_is)
    (case nbL0 => k_is)
    (case clL => k_is)
    (case mrL => k_is)
    (case kCL => k_is)
    (case eCL => k_is)
    (case tL => k_is)
    (case hL => k_is)
    (case inL => k_is)
    (case tiL => k_is)
    (case liL => k_is)
    (case ciL => k_is)
    (case kiL => k_is)
    (case xI => k_is)
    (case saI => k_is)
    (case gaI => k_is)
    (case ggI => k_is)
    (case nbI0 => k_is)
    (case clI => k_is)
    (case mrI => k_is)
    (case kCI => k_is)
    (case eCI => k_is)
    (case tI => k_is)
    (case hI => k_is)
    (case inI => k_is)
    (case tiI => k_is)
    (case liI => k_is)
    (case ciI => k_is)
    (case kiI => k_is)
    (case xR => k_is)
    (case saR => k_is)
    (case gaR => k_is)
    (case ggR => k_is)
    (case nbR0 => k_is)
    (case nbR1 => k_is)
    (case clR => k_is)
    (case mrR => k_is)
    (case kCR => k_is)
    (case eCR => k_is)
    (case tR => k_is)
    (case hR => k_is)
    (case inR => k_is)
    (case tiR => k_is)
    (case liR => k_is)
    (case ciR => k_is)
    (case kiR => k_is)
    (case xN => k_is)
    (case saN => k_is)
    (case gaN => k_is)
    (case ggN => k_is)
    (case nbN0 => k_is)
    (case clN => k_is)
    (case mrN => k_is)
    (case kCN => k_is)
    (case eCN => k_is)
    (case tN => k_is)
    (case hN => k_is)
    (case inN => k_is)
    (case tiN => k_is)
    (case liN => k_is)
    (case ciN => k_is)
    (case kiN => k_is)
    (case xU => k_is)
    (case saU => k_is)
    (case gaU => k_is)
    (case ggU => k_is)
    (case nbU0 => k_is)
    (case clU => k_is)
    (case mrU => k_is)
    (case kCU => k_is)
    (case eCU => k_is)
    (case tU => k_is)
    (case hU => k_is)
    (case inU => k_is)
    (case tiU => k_is)
    (case liU => k_is)
    (case ciU => k_is)
    (case kiU => k_is)
    (case xM => k_is)
    (case saM => k_is)
    (case gaM => k_is)
    (case ggM => k_is)
    (case nbM0 => k_is)
    (case clM => k_is)
    (case mrM => k_is)
    (case kCM => k_is)
    (case eCM => k_is)
    (case tM => k_is)
    (case hM => k_is)
    (case inM => k_is)
    (case tiM => k_is)
    (case liM => k_is)
    (case ciM => k_is)
    (case kiM => k_is)
    (case xO => k_is)
    (case saO => k_is)
    (case gaO => k_is)
    (case ggO => k_is)
    (case nbO0 => k_is)
    (case clO => k_is)
    (case mrO => k_is)
    (case kCO => k_is)
    (case eCO => k_is)
    (case tO => k_is)
    (case hO => k_is)
    (case inO => k_is)
    (case tiO => k_is)
    (case liO => k_is)
    (case ciO => k_is)
    (case kiO => k_is)
    (case xY => k_is)
    (case saY => k_is)
    (case gaY => k_is)
    (case ggY => k_is)
    (case nbY0 => k_is)
    (case clY => k_is)
    (case mrY => k_is)
    (case kCY => k_is)
    (case eCY => k_is)
    (case tY => k_is)
    (case hY => k_is)
    (case inY => k_is)
    (case tiY => k_is)
    (case liY => k_is)
    (case ciY => k_is)
    (case kiY => k_is)
    (case xW => k_is)
    (case saW => k_is)
    (case gaW => k_is)
    (case ggW => k_is)
    (case clW => k_is)
    (case mrW => k_is)
    (case kCW => k_is)
    (case eCW => k_is)
    (case tW => k_is)
    (case hW => k_is)
    (case inW => k_is)
    (case xE => k_is)
    (case saE => k_is)
    (case gaE => k_is)
    (case ggE => k_is)
    (case nbE0 => k_is)
    (case clE => k_is)
    (case mrE => k_is)
    (case kCE => k_is)
    (case eCE => k_is)
    (case tE => k_is)
    (case hE => k_is)
    (case inE => k_is)
    (case tiE => k_is)
    (case liE => k_is)
    (case ciE => k_is)
    (case kiE => k_is)
    (case sp0 => k_is)
    (case tk0 => k_is)
    (case hB => k_is)
    (case tB => k_is)
    (case sB => k_is)
    (case nTB => decide)
    (case sTB => k_is)
    (case nLB => decide)
    (case sLB => k_is)
    (case nIB => decide)
    (case sIB => k_is)
    (case nRB => decide)
    (case sRB => k_is)
    (case nNB => decide)
    (case sNB => k_is)
    (case nUB => decide)
    (case sUB => k_is)
    (case nMB => decide)
    (case sMB => k_is)
    (case nOB => decide)
    (case sOB => k_is)
    (case nYB => decide)
    (case sYB => k_is)
    (case nWB => decide)
    (case sWB => k_is)
    (case nEB => decide)
    (case sEB => k_is)
    (case nTL => decide)
    (case sTL => k_is)
    (case nTI => decide)
    (case sTI => k_is)
    (case nTR => decide)
    (case sTR => k_is)
    (case nTN => decide)
    (case sTN => k_is)
    (case nTU => decide)
    (case sTU => k_is)
    (case nTM => decide)
    (case sTM => k_is)
    (case nTO => decide)
    (case sTO => k_is)
    (case nTY => decide)
    (case sTY => k_is)
    (case nTW => decide)
    (case sTW => k_is)
    (case nTE => decide)
    (case sTE => k_is)
    (case nLT => decide)
    (case sLT => k_is)
    (case nLI => decide)
    (case sLI => k_is)
    (case nLR => decide)
    (case sLR => k_is)
    (case nLN => decide)
    (case sLN => k_is)
    (case nLU => decide)
    (case sLU => k_is)
    (case nLM => decide)
    (case sLM => k_is)
    (case nLO => decide)
    (case sLO => k_is)
    (case nLY => decide)
    (case sLY => k_is)
    (case nLW => decide)
    (case sLW => k_is)
    (case nLE => decide)
    (case sLE => k_is)
    (case nIT => decide)
    (case sIT => k_is)
    (case nIL => decide)
    (case sIL => k_is)
    (case nIR => decide)
    (case sIR => k_is)
    (case nIN => decide)
    (case sIN => k_is)
    (case nIU => decide)
    (case sIU => k_is)
    (case nIM => decide)
    (case sIM => k_is)
    (case nIO => decide)
    (case sIO => k_is)
    (case nIY => decide)
    (case sIY => k_is)
    (case nIW => decide)
    (case sIW => k_is)
    (case nIE => decide)
    (case sIE => k_is)
    (case nRT => decide)
    (case sRT => k_is)
    (case nRL => decide)
    (case sRL => k_is)
    (case nRI => decide)
    (case sRI => k_is)
    (case nRN => decide)
    (case sRN => k_is)
    (case nRU => decide)
    (case sRU => k_is)
    (case nRM => decide)
    (case sRM => k_is)
    (case nRO => decide)
    (case sRO => k_is)
    (case nRY => decide)
    (case sRY => k_is)
    (case nRW => decide)
    (case sRW => k_is)
    (case nRE => decide)
    (case sRE => k_is)
    (case nNT => decide)
    (case sNT => k_is)
    (case nNL => decide)
    (case sNL => k_is)
    (case nNI => decide)
    (case sNI => k_is)
    (case nNR => decide)
    (case sNR => k_is)
    (case nNU => decide)
    (case sNU => k_is)
    (case nNM => decide)
    (case sNM => k_is)
    (case nNO => decide)
    (case sNO => k_is)
    (case nNY => decide)
    (case sNY => k_is)
    (case nNW => decide)
    (case sNW => k_is)
    (case nNE => decide)
    (case sNE => k_is)
    (case nUT => decide)
    (case sUT => k_is)
    (case nUL => decide)
    (case sUL => k_is)
    (case nUI => decide)
    (case sUI => k_is)
    (case nUR => decide)
    (case sUR => k_is)
    (case nUN => decide)
    (case sUN => k_is)
    (case nUM => decide)
    (case sUM => k_is)
    (case nUO => decide)
    (case sUO => k_is)
    (case nUY => decide)
    (case sUY => k_is)
    (case nUW => decide)
    (case sUW => k_is)
    (case nUE => decide)
    (case sUE => k_is)
    (case nMT => decide)
    (case sMT => k_is)
    (case nML => decide)
    (case sML => k_is)
    (case nMI => decide)
    (case sMI => k_is)
    (case nMR => decide)
    (case sMR => k_is)
    (case nMN => decide)
    (case sMN => k_is)
    (case nMU => decide)
    (case sMU => k_is)
    (case nMO => decide)
    (case sMO => k_is)
    (case nMY => decide)
    (case sMY => k_is)
    (case nMW => decide)
    (case sMW => k_is)
    (case nME => decide)
    (case sME => k_is)
    (case nOT => decide)
    (case sOT => k_is)
    (case nOL => decide)
    (case sOL => k_is)
    (case nOI => decide)
    (case sOI => k_is)
    (case nOR => decide)
    (case sOR => k_is)
    (case nON => decide)
    (case sON => k_is)
    (case nOU => decide)
    (case sOU => k_is)
    (case nOM => decide)
    (case sOM => k_is)
    (case nOY => decide)
    (case sOY => k_is)
    (case nOW => decide)
    (case sOW => k_is)
    (case nOE => decide)
    (case sOE => k_is)
    (case nYT => decide)
    (case sYT => k_is)
    (case nYL => decide)
    (case sYL => k_is)
    (case nYI => decide)
    (case sYI => k_is)
    (case nYR => decide)
    (case sYR => k_is)
    (case nYN => decide)
    (case sYN => k_is)
    (case nYU => decide)
    (case sYU => k_is)
    (case nYM => decide)
    (case sYM => k_is)
    (case nYO => decide)
    (case sYO => k_is)
    (case nYW => decide)
    (case sYW => k_is)
    (case nYE => decide)
    (case sYE => k_is)
    (case nWT => decide)
    (case sWT => k_is)
    (case nWL => decide)
    (case sWL => k_is)
    (case nWI => decide)
    (case sWI => k_is)
    (case nWR => decide)
    (case sWR => k_is)
    (case nWN => decide)
    (case sWN => k_is)
    (case nWU => decide)
    (case sWU => k_is)
    (case nWM => decide)
    (case sWM => k_is)
    (case nWO => decide)
    (case sWO => k_is)
    (case nWY => decide)
    (case sWY => k_is)
    (case nWE => decide)
    (case sWE => k_is)
    (case nET => decide)
    (case sET => k_is)
    (case nEL => decide)
    (case sEL => k_is)
    (case nEI => decide)
    (case sEI => k_is)
    (case nER => decide)
    (case sER => k_is)
    (case nEN => decide)
    (case sEN => k_is)
    (case nEU => decide)
    (case sEU => k_is)
    (case nEM => decide)
    (case sEM => k_is)
    (case nEO => decide)
    (case sEO => k_is)
    (case nEY => decide)
    (case sEY => k_is)
    (case nEW => decide)
    (case sEW => k_is)
    (case vTValueError => k_is)
    (case vLValueError => k_is)
    (case vIValueError => k_is)
    (case vRValueError => k_is)
    (case vNValueError => k_is)
    (case vUValueError => k_is)
    (case vMValueError => k_is)
    (case vOValueError => k_is)
    (case vYValueError => k_is)
    (case vWValueError => k_is)
    (case vEValueError => k_is)
    (case a0 => k_is)
    (case l0 => k_is)
    (case c0 => k_is)
    (case k0 => k_is)
    (case a1 => k_is)
    (case l1 => k_is)
    (case c1 => k_is)
    (case k1 => k_is)
    (case a2 => k_is)
    (case l2 => k_is)
    (case c2 => k_is)
    (case k2 => k_is)
    (case a3 => k_is)
    (case l3 => k_is)
    (case c3 => k_is)
    (case k3 => k_is)
    (case a4 => k_is)
    (case l4 => k_is)
    (case c4 => k_is)
    (case k4 => k_is)
    (case a5 => k_is)
    (case l5 => k_is)
    (case c5 => k_is)
    (case k5 => k_is)
    (case a6 => k_is)
    (case l6 => k_is)
    (case c6 => k_is)
    (case k6 => k_is)
    (case z0 => k_is)
    (case z1 => k_is)
    (case z2 => k_is)
    (case z3 => k_is)
    (case z4 => k_is)
    (case z5 => k_is)
    (case z6 => k_is)
    (case z7 => k_is)
    (case z8 => k_is)
    (case z9 => k_is)


